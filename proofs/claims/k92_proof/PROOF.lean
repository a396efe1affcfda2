import PyProof.Rows.All
import Wide.All
import OpenK.AllK
import Wide.FinOn
import Lean
import PyProof.EqAt
import PyProof.EqKinds
import PyProof.TupleCall
import PyProof.NeKinds
import KE.KDictOf
import PyProof.Rows.TupDisplay
import PyProof.DictItems
import KE.KPairComp
import PyProof.Draws
import KE.KTupSum
import KE.KIntText
import PyProof.Rows.Range3
import PyProof.Rows.FStr
import PyProof.StrCalls2
import PyProof.StrLawsTight
import PyProof.StrLawsIn
import PyProof.StrCalls
import KE.KLam
import KE.KMinKey
import PyProof.Rows.RuleN_abs
import PyProof.Rows.StrCut
import PySem.Challenge.RW_screenlines_k92_whole_orders_on_pads
set_option Elab.async false
set_option linter.all false
set_option maxRecDepth 100000
noncomputable section
variable{us its:List Value}{x y qual y0 y1 y2 y3 y4:Str}{u cdv oc:Value}{a b it p C f q ai bC a_ELSEWHERE a_HERE a_HERE_WIPED a_ELSEWHERE_WIPED a_NO_ORDERS bH cM:Addr}{P:Program}{h h':Heap}{t' i j k kt J:Nat}{ch fp:List Addr}{E:Value->Shared->Prop}{s' s:Shared}{pos py:Pos}{pins:List (Addr×Obj)}{es elts:List Expr}{iter tgt:Expr}{mA:Str->Option Value}{fd:FuncData}{ps loose:List Str}{scope:Scope}{an od:Option Addr}{osl:Array (Option Value)}{st:Stmt}{ks ix old:List Nat}{neg fz:Bool}
namespace L2
open PySem PySem.Spec PyProof.Rows
noncomputable abbrev Key:=Sum Int Str
noncomputable def JO:Key->Value->Bool
 |.inl k,v=>Value.isInt k v
 |.inr x,v=>Value.isStrOf x v
noncomputable def N4(w:World):Key->Int
 |.inl k=>hashInt k
 |.inr x=>hashStr w x
def bV:∀{k:Key}{v:Value},JO k v=true->(∃i t,k=Sum.inl i/\v=Value.int i t)\/(∃x t,k=Sum.inr x/\v=Value.str x t)
 |.inl i,v,h=>by obtain⟨t,e⟩:=Value.isInt_shape h;exact .inl ⟨i,t,rfl,e⟩
 |.inr x,v,h=>by obtain⟨t,e⟩:=Value.isStrOf_shape h;exact .inr ⟨x,t,rfl,e⟩
def IT(a b:Int):decide ((Sum.inl a:Key)=Sum.inl b)=(a==b):=by
 by_cases e:a=b;·subst e;simp
 ·have h : ¬ (Sum.inl a:Key)=Sum.inl b:=λq=>e (Sum.inl.inj q);rw[decide_eq_false h];exact(beq_eq_false_iff_ne.mpr e).symm
def Hj(a b:Str):decide ((Sum.inr a:Key)=Sum.inr b)=decide (a=b):=by
 by_cases e:a=b;·subst e;simp
 ·have h : ¬ (Sum.inr a:Key)=Sum.inr b:=λq=>e (Sum.inr.inj q);rw[decide_eq_false h,decide_eq_false e]
def Jz(a:Int)(b:Str):decide ((Sum.inl a:Key)=Sum.inr b)=false:=decide_eq_false (λq=>nomatch q)
def Ju(a:Str)(b:Int):decide ((Sum.inr a:Key)=Sum.inl b)=false:=decide_eq_false (λq=>nomatch q)
noncomputable def tD(prog:Program)(w:World):PySem.KeyKind prog w Key where
 is:=JO
 hash:=N4 w
 inj:=λv a b ha hb=>by
  rcases bV ha with⟨i,t,rfl,rfl⟩|⟨x,t,rfl,rfl⟩
  ·rcases bV hb with⟨j,u,rfl,e⟩|⟨y,u,rfl,e⟩;·injection e with e1 _;rw[e1]
   ·exact nomatch e
  ·rcases bV hb with⟨j,u,rfl,e⟩|⟨y,u,rfl,e⟩;·exact nomatch e
   ·injection e with e1 _;rw[e1]
 byValue:=λk v h=>by rcases bV h with⟨i,t,rfl,rfl⟩|⟨x,t,rfl,rfl⟩ <;> rfl
 pyHash:=λhv h=>by
  rcases bV hv with⟨i,t,rfl,rfl⟩|⟨x,t,rfl,rfl⟩;·exact wpAny_pyHash_int h
  ·exact wpAny_pyHash_str h
 eqBool:=λhu hv h=>by
  rcases bV hu with⟨i,t,rfl,rfl⟩|⟨x,t,rfl,rfl⟩
  ·rcases bV hv with⟨j,u,rfl,rfl⟩|⟨y,u,rfl,rfl⟩;·rw[IT]at h;exact wpAny_eqBool_int h
   ·rw[Jz]at h;exact SeqAt.EqAt.int_str i t y u _ _ _ _ h
  ·rcases bV hv with⟨j,u,rfl,rfl⟩|⟨y,u,rfl,rfl⟩;·rw[Ju]at h;exact SeqAt.EqAt.str_int x t j u _ _ _ _ h
   ·rw[Hj]at h;exact wpAny_eqBool_str h
 «strs»:=λk x t v h=>by
  rcases bV h with⟨i,u,rfl,e⟩|⟨y,u,rfl,e⟩;·exact nomatch e
  ·injection e with e1 _;subst e1;cases v <;> rfl
inductive V where
 |non|bl (b:Bool)|int (i:Int)|str (x:Str)|byt (b:Array UInt8)|flt (b:UInt64)|ref (a:Addr)|ty (n:String)
 deriving DecidableEq
noncomputable def RelV:V->Value->Prop
 |.non,u=>u=Value.none
 |.bl b,u=>u=Value.bool b
 |.int i,u=>∃t,u=Value.int i t
 |.str x,u=>∃t,u=Value.str x t
 |.byt b,u=>∃t,u=Value.bytes b t
 |.flt b,u=>∃t,u=Value.float b t
 |.ref a,u=>u=Value.ref a
 |.ty n,u=>u=Value.type n
noncomputable abbrev Vals:List V->List Value->Prop:=Paired RelV
def Vals.length{xs:List V}(r:Vals xs us):xs.length=us.length:=Paired.length r
theorem Vals.get:∀{xs:List V}{us:List Value}{i:Nat}{x:V},Vals xs us->xs[i]?=some x->∃u,us[i]?=some u/\RelV x u
 |_,_,_,_,.nil,e=>by simp at e
 |_,_,0,_,.cons r _,e=>by simp at e;subst e;exact⟨_,rfl,r⟩
 |_,_,i+1,x,.cons _ t,e=>by obtain⟨u,h1,h2⟩:=Vals.get t (by simpa using e);exact⟨u,by simpa using h1,h2⟩
theorem Vals.set{x:V}(r:RelV x u):∀{xs:List V}{us:List Value}(i:Nat),Vals xs us->Vals (xs.set i x) (us.set i u)
 |_,_,_,.nil=>.nil
 |_,_,0,.cons _ t=>.cons r t
 |_,_,i+1,.cons q t=>.cons q (Vals.set r i t)
theorem Vals.append:∀{xs ys:List V}{us ws:List Value},Vals xs us->Vals ys ws->Vals (xs++ys) (us++ws)
 |_,_,_,_,.nil,s=>s
 |_,_,_,_,.cons r t,s=>.cons r (Vals.append t s)
theorem Vals.take:∀{xs:List V}{us:List Value}(n:Nat),Vals xs us->Vals (xs.take n) (us.take n)
 |_,_,0,_=>.nil
 |_,_,_+1,.nil=>.nil
 |_,_,n+1,.cons r t=>.cons r (Vals.take n t)
theorem Vals.drop:∀{xs:List V}{us:List Value}(n:Nat),Vals xs us->Vals (xs.drop n) (us.drop n)
 |_,_,0,r=>r
 |_,_,_+1,.nil=>.nil
 |_,_,n+1,.cons _ t=>Vals.drop n t
noncomputable def RelO:Option V->Option Value->Prop
 |some v,some u=>RelV v u
 |none,none=>True
 |_,_=>False
noncomputable def KV{κ:Type}:List (κ×V)->List (κ×Value)->Prop:=Paired λ(p:κ×V) (q:κ×Value)=>p.1=q.1/\RelV p.2 q.2
noncomputable def kV:Key->V
 |.inl i=>.int i
 |.inr x=>.str x
inductive HO where
  |lst (xs : List V)
  |tup (xs : List V)
  |dK (kvs : List (Key × V))|dT (kvs : List (List Key × V))
  |set (S : Int -> Bool) (n : Nat)
  |ins (C dx : Addr) (fs : List (Str × V))
  |own (x : Addr)
  |xd (fs : List (Str × V))
  |met (f x : Addr)
  |rng (lo hi : Int)
  |frz (o : Obj) (u : HO)
  |tbl (ps : Array Value)
  |ext (φ : Heap -> Prop)

noncomputable abbrev Hp:=Addr->Option HO
noncomputable def upd(H:Hp)(a:Addr)(o:HO):Hp:=λb=>if b=a then some o else H b
def aF{H:Hp}{o:HO}:upd H a o a=some o:=by unfold upd;rw[if_pos rfl]
def aw{H:Hp}{o:HO}(h:b≠a):upd H a o b=H b:=by unfold upd;rw[if_neg h]
def aD{H:Hp}{o:HO}(h:H a=some o)(h':H b=none):a≠b:=by intro e;subst e;rw[h]at h';cases h'
noncomputable def JL(ps:Array Value):Str:=match ps.toList with
 |.str q _::_=>q
 |_=>Str.empty
section
variable(P:Program)(w:World)
noncomputable def ObjOk(H:Hp)(h:Heap)(a:Addr):HO->Prop
 |.lst xs=>xs.length<=sizeLine/\∃(its:List Value)(n:Nat),Vals xs its/\h.get? a=some { cls:=.type "list",data:=.seq its.toArray n }
 |.tup xs=>xs.length<=sizeLine/\∃its:List Value,Vals xs its/\IsTup h a its.toArray
 |.dK kvs=>kvs.length<=sizeLine/\(a==sysModules)=false/\∃vs,KV kvs vs/\h.DictOf (tD P w) a vs
 |.dT kvs=>kvs.length<=sizeLine/\(a==sysModules)=false/\∃xs:List (List Key×Addr×Value),
   Paired (λ(p:List Key×V) (q:List Key×Addr×Value)=>p.1=q.1/\H q.2.1=some (.tup (p.1.map kV))/\RelV p.2 q.2.2) kvs xs/\
   ∃o es ep,h.get? a=some o/\o.ExactDict/\o.data=.dict es ep/\es.toList=xs.map (entryOfKey (tupleKind (tD P w)))/\(xs.map (·.1)).Nodup
 |.set S n=>h.SetOf (intKind P w) a S n
 |.ins C dx fs=>H dx=some (.own a)/\fs.length<=1000/\dx≠a/\h.get? a=some (W.instObj C dx)/\
   ∃mA,h.Ns1 dx mA/\(∀f,RelO (fs.lookup f) (mA f))/\PySem.Within mA (fs.map (·.1))
 |.own _=>∃o,h.get? a=some o
 |.xd fs=>∃mA,h.Ns1 a mA/\∀f,RelO (fs.lookup f) (mA f)
 |.rng lo hi=>∃t u v,h.get? a=some { cls:=.type "range",data:=.fields #[.int lo t,.int hi u,.int 1 v] }
 |.frz o u=>h.get? a=some o/\ObjOk H h a u
 |.tbl ps=>∃qs:Array Value,h.get? a=some { cls:=.none,data:=.fields qs }/\TriplesOk qs.toList/\∀(pos:Pos)(cv:Value),codeAmong pos qs.toList=some cv->∃c o vs t,cv=.ref c/\H c=some (.frz o (.own a))/\o.data=.fields vs/\vs[1]?=some (.str (JL ps) t)
 |.met f x=>h.get? a=some (W.methodObj (.ref f) (.ref x))
 |.ext φ=>φ h/\(∃o,h.get? a=some o)/\∀h1 h2:Heap,φ h1->(∀o,h1.get? a=some o->h2.get? a=some o)->φ h2
noncomputable def HOk(H:Hp)(h:Heap):Prop:=∀a o,H a=some o->ObjOk P w H h a o
end
section
variable{w:World}{H H':Hp}{o:HO}
def ObjOk.lt(x:ObjOk P w H h a o):a<h.objs.size:=by
 cases o with
 |lst xs=>obtain⟨_,_,_,_,e⟩:=x;exact Heap.lt_size e
 |tup xs=>obtain⟨_,_,_,p⟩:=x;exact p.lt
 |dK kvs=>obtain⟨_,_,_,_,o,_,_,e,_⟩:=x;exact Heap.lt_size e
 |dT kvs=>obtain⟨_,_,_,_,o,_,_,e,_⟩:=x;exact Heap.lt_size e
 |set S n=>obtain⟨o,_,_,_,e,_⟩:=x;exact Heap.lt_size e
 |ins C dx fs=>obtain⟨_,_,_,e,_⟩:=x;exact Heap.lt_size e
 |own y=>obtain⟨_,e⟩:=x;exact Heap.lt_size e
 |xd fs=>obtain⟨_,⟨_,_,_,e,_⟩,_⟩:=x;exact Heap.lt_size e
 |rng lo hi=>obtain⟨_,_,_,e⟩:=x;exact Heap.lt_size e
 |frz ob u=>obtain⟨e,_⟩:=x;exact Heap.lt_size e
 |tbl ps=>obtain⟨_,e,_⟩:=x;exact Heap.lt_size e
 |met f y=>exact Heap.lt_size (show h.get? a=some _ from x)
 |ext φ=>obtain⟨_,⟨_,e⟩,_⟩:=x;exact Heap.lt_size e
theorem Paired.mapP{α β:Type}{F G:α->β->Prop}:∀{l₁:List α}{l₂:List β},Paired F l₁ l₂->(∀a b,F a b->G a b)->Paired G l₁ l₂
 |_,_,.nil,_=>.nil
 |_,_,.cons r t,f=>.cons (f _ _ r) (Paired.mapP t f)
def ObjOk.stay(x:ObjOk P w H h a o)(k:∀b u,(b=a\/H b=some (.own a))->h.get? b=some u->h'.get? b=some u)(ho:∀b,H b=some (.own a)->H' b=some (.own a))(ht:∀b xs,H b=some (.tup xs)->H' b=some (.tup xs))(hz:∀b o u,H b=some (.frz o u)->H' b=some (.frz o u):=by exact λ_ _ _ q=>q):ObjOk P w H' h' a o:=by
 induction o with
 |lst xs=>obtain⟨z,its,n,r,e⟩:=x;exact⟨z,its,n,r,k _ _ (.inl rfl) e⟩
 |tup xs=>obtain⟨z,its,r,ob,e,c⟩:=x;exact⟨z,its,r,ob,k _ _ (.inl rfl) e,c⟩
 |dK kvs=>obtain⟨z,y,vs,r,ob,es,ep,e,c⟩:=x;exact⟨z,y,vs,r,ob,es,ep,k _ _ (.inl rfl) e,c⟩
 |dT kvs=>obtain⟨z,y,xs,r,ob,es,ep,e,c⟩:=x;exact⟨z,y,xs,Paired.mapP r λp q z=>⟨z.1,ht _ _ z.2.1,z.2.2⟩,ob,es,ep,k _ _ (.inl rfl) e,c⟩
 |set S n=>obtain⟨ob,es,ep,t,e,c⟩:=x;exact⟨ob,es,ep,t,k _ _ (.inl rfl) e,c⟩
 |ins C dx fs=>obtain⟨d,z,ne,e,mA,⟨od,es,ep,e2,c⟩,r⟩:=x;exact⟨ho _ d,z,ne,k _ _ (.inl rfl) e,mA,⟨od,es,ep,k _ _ (.inr d) e2,c⟩,r⟩
 |own y=>obtain⟨ob,e⟩:=x;exact⟨ob,k _ _ (.inl rfl) e⟩
 |xd fs=>obtain⟨mA,⟨od,es,ep,e,c⟩,r⟩:=x;exact⟨mA,⟨od,es,ep,k _ _ (.inl rfl) e,c⟩,r⟩
 |rng lo hi=>obtain⟨t,u,v,e⟩:=x;exact⟨t,u,v,k _ _ (.inl rfl) e⟩
 |frz ob u ih=>obtain⟨e,q⟩:=x;exact⟨k _ _ (.inl rfl) e,ih q⟩
 |tbl ps=>obtain⟨qs,e,tr,c⟩:=x;refine⟨qs,k _ _ (.inl rfl) e,tr,λpos cv q=>?_⟩;obtain⟨c',o',vs,tk,e1,e2,e3⟩:=c pos cv q;exact⟨c',o',vs,tk,e1,hz _ _ _ e2,e3⟩
 |met f y=>have e:=x;exact k a _ (.inl rfl) e
 |ext φ=>obtain⟨p,⟨o,e⟩,st⟩:=x;exact⟨st _ _ p λo q=>k _ _ (.inl rfl) q,⟨o,k _ _ (.inl rfl) e⟩,st⟩
def HOk.lt(x:HOk P w H h)(e:H a=some o):a<h.objs.size:=(x a o e).lt
def HOk.fresh(x:HOk P w H h)(e:h.objs.size<=a):H a=none:=by
 cases q:H a with
 |none=>rfl
 |some u=>exact absurd (Nat.lt_of_lt_of_le (x.lt q) e) (Nat.lt_irrefl _)
def HOk.kept(x:HOk P w H h)(k:∀b u,h.get? b=some u->h'.get? b=some u):HOk P w H h':=λa o e=>(x a o e).stay (λb u _ q=>k b u q) (λ_ q=>q) λ_ _ q=>q
def HOk.laid(x:HOk P w H h)(k:∀b u,h.get? b=some u->h'.get? b=some u)(hp:h.objs.size<=a)(new:ObjOk P w (upd H a o) h' a o):HOk P w (upd H a o) h':=λb u e=>by
 have hn:=x.fresh hp;by_cases hb:b=a;·subst hb;rw[aF]at e;cases e;exact new
 ·rw[aw hb]at e;exact(x b u e).stay (λc v _ q=>k c v q) (λc q=>by rw[aw (aD q hn)];exact q) (λc xs q=>by rw[aw (aD q hn)];exact q) λc ob u q=>by rw[aw (aD q hn)];exact q
end
noncomputable def Rd(H:Hp)(a:Addr)(u:HO):Prop:=H a=some u\/∃o,H a=some (.frz o u)
def Rd.ok{w:World}{H:Hp}{u:HO}(r:Rd H a u)(x:HOk P w H h):ObjOk P w H h a u:=by
 rcases r with r|⟨o,r⟩;·exact x a u r
 ·obtain⟨_,q⟩:=x a _ r;exact q
noncomputable def Mut:Option HO->Prop
 |some (.lst _)=>True
 |some (.dK _)=>True
 |some (.dT _)=>True
 |some (.set _ _)=>True
 |some (.ins _ _ _)=>True
 |some (.ext _)=>True
 |_=>False
section
variable{w:World}{H:Hp}{x e:Addr}{o':HO}
def HOk.write(ok:HOk P w H h)(mu:Mut (H x))(he:e=x\/H e=some (.own x))(k:∀b u,b≠e->h.get? b=some u->h'.get? b=some u)(heo:∃u,h'.get? e=some u)(new:ObjOk P w (upd H x o') h' x o'):HOk P w (upd H x o') h':=λb u q=>by
 have nown:∀c y,H c=some (.own y)->c≠x:=λc y r z=>by subst z;rw[r]at mu;exact mu
 have ntup:∀c xs,H c=some (.tup xs)->c≠x:=λc xs r z=>by subst z;rw[r]at mu;exact mu
 have nfrz:∀c ob u,H c=some (.frz ob u)->c≠x:=λc ob u r z=>by subst z;rw[r]at mu;exact mu
 by_cases hb:b=x;·subst hb;rw[aF]at q;cases q;exact new
 ·rw[aw hb]at q;by_cases hbe:b=e
  ·have q':H b=some (.own x):=by
    rcases he with z|z;·exact absurd (hbe.trans z) hb
    ·rw[hbe];exact z
   rw[q]at q';cases q';obtain⟨v,hv⟩:=heo;exact⟨v,by rw[hbe];exact hv⟩
  ·refine(ok b u q).stay (λc v hc r=>k c v ?_ r) (λc r=>by rw[aw (nown c b r)];exact r) (λc xs r=>by rw[aw (ntup c xs r)];exact r) λc ob u r=>by rw[aw (nfrz c ob u r)];exact r
   rcases hc with rfl|hc;·exact hbe
   ·rintro rfl;rcases he with z|z;·exact nown c b hc z
    ·rw[hc]at z;cases z;exact hb rfl
end
structure Un(fs ex:List Addr)(H H':Hp)(h h':Heap):Prop where
 keep:∀b o,h.get? b=some o->H b=none->b∉fs->b∉ex->h'.get? b=some o
 slot:∀b o,h.get? b=some o->H b=none->b∈fs->b∉ex->∃sl,h'.get? b=some { o with slots:=sl }
 free:∀b o,h.get? b=some o->H b=none->b∉ex->H' b=none
 there:∀b o,h.get? b=some o->b∉ex->∃o',h'.get? b=some o'
 tups:∀b xs,H b=some (.tup xs)->H' b=some (.tup xs)
 frzs:∀b o u,H b=some (.frz o u)->H' b=some (.frz o u)
 tbls:∀b ps,H b=some (.tbl ps)->∃more,H' b=some (.tbl (ps++more))
section
variable{fs fs' ex ex':List Addr}{H H1 H2:Hp}{h1 h2:Heap}{x e:Addr}{o:HO}
def Un.any(u:Un fs ex H H1 h h1){ob:Obj}(q:h.get? b=some ob)(n:H b=none)(hx:b∉ex):∃sl,h1.get? b=some { ob with slots:=sl }:=by
 by_cases hb:b∈fs;·exact u.slot b ob q n hb hx
 ·exact⟨ob.slots,u.keep b ob q n hb hx⟩
def Un.kept(k:∀b u,h.get? b=some u->h'.get? b=some u):Un fs ex H H h h':=
 ⟨λb ob q _ _ _=>k b ob q,λb ob q _ _ _=>⟨ob.slots,k b ob q⟩,λ_ _ _ n _=>n,λb ob q _=>⟨ob,k b ob q⟩,λ_ _ q=>q,λ_ _ _ q=>q,λ_ ps q=>⟨#[],by rw[q];simp⟩⟩
def Un.refl:Un fs ex H H h h:=Un.kept λ_ _ q=>q
def Un.laid(k:∀b u,h.get? b=some u->h'.get? b=some u)(hp:h.objs.size<=a)(hn:H a=none):Un fs ex H (upd H a o) h h' where
 keep:=λb u q _ _ _=>k b u q
 slot:=λb u q _ _ _=>⟨u.slots,k b u q⟩
 free:=λb u q n _=>by rw[aw (Nat.ne_of_lt (Nat.lt_of_lt_of_le (Heap.lt_size q) hp))];exact n
 there:=λb u q _=>⟨u,k b u q⟩
 tups:=λb xs q=>by rw[aw (aD q hn)];exact q
 frzs:=λb u xs q=>by rw[aw (aD q hn)];exact q
 tbls:=λb ps q=>⟨#[],by rw[aw (aD q hn),q];simp⟩
def Un.write(mu:Mut (H x))(he:e=x\/H e=some (.own x))(k:∀b u,b≠e->h.get? b=some u->h'.get? b=some u)(heo:∃u,h'.get? e=some u):Un fs ex H (upd H x o) h h':=by
 have hx:∀b,H b=none->b≠x:=λb n z=>by subst z;rw[n]at mu;exact mu
 have hb:∀b,H b=none->b≠e:=λb n z=>by
  subst z;rcases he with r|r;·exact hx b n r
  ·rw[n]at r;cases r
 have hm:∀b u,H b=some u->¬ Mut (some u)->b≠x:=λb u q nm z=>by subst z;rw[q]at mu;exact nm mu
 refine⟨λb u q n _ _=>k b u (hb b n) q,λb u q n _ _=>⟨u.slots,k b u (hb b n) q⟩,λb u q n _=>by rw[aw (hx b n)];exact n,λb u q _=>?_,
  λb xs q=>by rw[aw (hm b _ q λz=>z)];exact q,λb u xs q=>by rw[aw (hm b _ q λz=>z)];exact q,λb ps q=>⟨#[],by rw[aw (hm b _ q λz=>z),q];simp⟩⟩;by_cases hbe:b=e;·subst hbe;exact heo
 ·exact⟨u,k b u hbe q⟩
end
noncomputable def DP:HO->Value
 |.tbl ps=>if ps.size=1 then ps.getD 0 .none else .none
 |_=>.none
noncomputable def Hh(H:Hp)(b:Addr)(o:Obj):Obj:=match H b with
 |none=>(match o.data with|.freed=>⟨.none,none,.freed,#[]⟩|_=>o)
 |some u=>⟨DP u,none,.freed,#[]⟩
noncomputable def Bk(h:Heap)(H:Hp):Heap:=⟨h.objs.mapIdx λb o=>Hh H b o,h.life⟩
def Av(h:Heap)(H:Hp):(Bk h H).objs.size=h.objs.size:=Array.size_mapIdx
def get_objs{o:Obj}:h.get? b=some o ↔ h.objs[b]?=some o/\o.data≠.freed:=by
 unfold Heap.get?;constructor
 ·intro e;split at e;·cases e
  ·rename_i z;refine⟨e,λq=>?_⟩;obtain⟨a,b,c,d⟩:=o;cases q;exact z _ _ _ e
 ·rintro ⟨e,n⟩;rw[e];split;·rename_i q;cases q;exact absurd rfl n
  ·rfl
def nF(h:Heap)(H:Hp)(b:Addr):(Bk h H).objs[b]?=(h.objs[b]?).map (Hh H b):=Array.getElem?_mapIdx
def CS{H:Hp}{o:Obj}(e:h.get? b=some o)(n:H b=none):(Bk h H).get? b=some o:=by
 obtain⟨e1,e2⟩:=get_objs.1 e;have z:Hh H b o=o:=by unfold Hh;rw[n];cases q:o.data <;> first|rfl|exact absurd q e2
 exact get_objs.2 ⟨by rw[nF,e1,Option.map_some,z],e2⟩
def Gi{H:Hp}{o:Obj}(e:(Bk h H).get? b=some o):h.get? b=some o/\H b=none:=by
 obtain⟨e1,e2⟩:=get_objs.1 e;rw[nF]at e1;cases q:h.objs[b]? with
 |none=>rw[q]at e1;cases e1
 |some o'=>
  rw[q,Option.map_some]at e1;have e1:=Option.some.inj e1;unfold Hh at e1;cases hq:H b with
  |none=>
   rw[hq]at e1;dsimp only at e1;split at e1;·rw[<- e1]at e2;exact absurd rfl e2
   ·exact⟨get_objs.2 ⟨by rw[q,e1],e2⟩,rfl⟩
  |some u=>rw[hq]at e1;dsimp only at e1;rw[<- e1]at e2;exact absurd rfl e2
noncomputable def KA(base:Heap)(p:Addr)(q:Str):Prop:=base.objs[p]?=some ⟨.str q 0,none,.freed,#[]⟩
noncomputable def TabsIn(base:Heap)(H:Hp):Prop:=∀p q,KA base p q->∃more,H p=some (.tbl (#[.str q 0]++more))
def Al(h : Heap)(H : Hp): TabsIn (Bk h H) H := λp q e => by
  unfold KA at e;rw[nF]at e;cases z : h.objs[p]? with
  |none => rw[z]at e; cases e
  |some o =>
    rw[z, Option.map_some]at e;have e := Option.some.inj e;unfold Hh at e;cases hq : H p with
    |none =>
      rw[hq]at e;dsimp only at e;split at e;· cases e
      · rename_i n; rw[e]at n; exact absurd rfl n
    |some u =>
      rw[hq]at e;have e := congrArg Obj.cls e;cases u with
      |tbl ps =>
        dsimp only[DP]at e;split at e
        · rename_i n;refine⟨#[], ?_⟩;obtain⟨l⟩ := ps
          match l, n with
          | [v], _ => have : v = .str q 0 := e
                      rw[this]; rfl
        · cases e
      |_ => cases e
def TabsIn.un{base:Heap}{fs ex:List Addr}{H H':Hp}(t:TabsIn base H)(u:Un fs ex H H' h h'):TabsIn base H':=λp q e=>by obtain⟨m1,z⟩:=t p q e;obtain⟨m2,z⟩:=u.tbls p _ z;exact⟨m1++m2,by rw[z,Array.append_assoc]⟩
noncomputable def EB(g h:Heap)(L:Addr):List (Addr×Obj):=(List.range h.objs.size).filterMap λa=>if a=L\/(g.get? a).isSome=true then none else (h.get? a).map λo=>(a,o)
noncomputable def cT(g h:Heap)(L d:Addr):List (Addr×Obj):=(EB g h L).filter λp=>decide (p.1≠d)
end L2
variable{xs vs:List L2.V}{H H' G G₀:L2.Hp}{v:L2.V}{sq:L2.Hp->List L2.V->Prop}
namespace L2
open PySem PySem.Spec PyProof.Rows
structure Mod(K:W.Frag)(mg:Str->Option Value)(base:Heap):Prop where
 kin:K.In base
 glob:base.Ns mainGlobals mg
 blt:∃mb,base.Ns builtinsNs mb/\∀x:Str,x≠"__name__"->mb x=bootBuiltins x
 nolimit:base.NoLimit
structure Cx where
 prog:Program
 w:World
 K:W.Frag
 mg:Str->Option Value
 base:Heap
 A:Around
 N:List Str
 s₀:Shared
 H₀:Hp
 env:Env
 outer:List Env
 stack:List Env
 ex:List Addr
 fn:Str->Bool
 calm:Bool
 pn:List (Addr×Obj)
 xe:Value->Shared->Prop
noncomputable def frs(l:List Env):List Addr:=l.filterMap (·.frame)
noncomputable abbrev Cx.fs(X:Cx):List Addr:=frs X.outer
noncomputable def Vis(sc:Scope)(x:Str):Prop:=sc.names.lookup x=some .local\/sc.names.lookup x=some .cell\/sc.names.lookup x=some .free
noncomputable def Loc(sc:Scope)(x:Str):Prop:=sc.names.lookup x=some .local\/sc.names.lookup x=some .cell
noncomputable def Ot(env:Env)(h:Heap)(m:Str->Option Value)(x:Str)(u:Value):Prop:=
 (env.kindOf x=some .local/\m x=some u)\/((env.kindOf x=some .cell\/env.kindOf x=some .free)/\∃c,env.cells.lookup x=some c/\h.IsCell c (some u))
structure Cx.Ok(X:Cx):Prop where
 mod:Mod X.K X.mg X.base
 kind:X.env.scope.kind=.function
 glob:X.env.globals=mainGlobals
 blt:X.env.builtins=builtinsNs
 above:X.s₀.heap.objs.size<=X.env.locals
 inj:∀x y c,X.env.cells.lookup x=some c->X.env.cells.lookup y=some c->x=y
 has:∀x,(X.env.kindOf x=some .cell\/X.env.kindOf x=some .free)->∃c,X.env.cells.lookup x=some c
 cab:∀x c,X.fn x=true->X.env.cells.lookup x=some c->X.s₀.heap.objs.size<=c
 hd:X.calm=true->X.A.handled=none
 frames:X.A.frames=some X.stack
 stk:X.stack=X.outer\/(X.stack=X.env::X.outer/\X.env.frame=some X.env.locals)
 exf:∀b∈X.ex,b≠X.env.locals/\∀x c,X.env.cells.lookup x=some c->c≠b
 bs:∀b o,X.base.get? b=some o->X.s₀.heap.get? b=some o/\X.H₀ b=none
 bsz:X.base.objs.size<=X.s₀.heap.objs.size
 noex:∀b o,X.base.get? b=some o->b∉X.ex
 exfs:∀b∈X.ex,b∉X.fs
 funs:X.s₀.heap.FunFrames X.base X.outer
 frf:∀b∈X.fs,X.H₀ b=none
 tabs:TabsIn X.base X.H₀
structure Inv(X:Cx)(pins:List (Addr×Obj))(σ:List (Option V))(H:Hp)(s:Shared):Prop where
 ok:X.Ok
 os:s.os=X.s₀.os
 bare:AllBare s.gens
 base:Un X.fs X.ex X.H₀ H X.s₀.heap s.heap
 loc:∃m,s.heap.Ns X.env.locals m/\∀(i:Nat)(x:Str)(v:V),X.N[i]?=some x->σ[i]?=some (some v)->Vis X.env.scope x->∃u,RelV v u/\Ot X.env s.heap m x u
 cell:∀x c,X.env.cells.lookup x=some c->∃v,s.heap.IsCell c v
 free:H X.env.locals=none
 freeC:∀x c,X.env.cells.lookup x=some c->H c=none
 pin:∀p∈X.pn++pins,s.heap.get? p.1=some p.2/\H p.1=none/\p.1≠X.env.locals/\p.1∉X.fs/\∀v,p.2.data≠.cell v
 hok:HOk X.prog X.w H s.heap
 len:σ.length=X.N.length
section
variable{X:Cx}{σ:List (Option V)}
def Cx.Ok.nofr(ok:X.Ok){o:Obj}(e:X.base.get? b=some o):b∉X.fs:=λhb=>by have:=(ok.funs.mem hb).1;rw[e]at this;cases this
def Inv.bs(I:Inv X pins σ H s):∀b o,X.base.get? b=some o->s.heap.get? b=some o/\H b=none:=λb o e=>⟨I.base.keep b o (I.ok.bs b o e).1 (I.ok.bs b o e).2 (I.ok.nofr e) (I.ok.noex b o e),I.base.free b o (I.ok.bs b o e).1 (I.ok.bs b o e).2 (I.ok.noex b o e)⟩
def Inv.bk(I:Inv X pins σ H s):∀b o,X.base.get? b=some o->s.heap.get? b=some o:=λb o e=>(I.bs b o e).1
def Inv.mod(I:Inv X pins σ H s):Mod X.K X.mg X.base:=I.ok.mod
def Inv.kIn(I:Inv X pins σ H s):X.K.In s.heap:=I.ok.mod.kin.keeps I.bk
def Inv.lt(I:Inv X pins σ H s):X.env.locals<s.heap.objs.size:=let⟨_,hn,_⟩:=I.loc;hn.lt
def Inv.sz(I:Inv X pins σ H s):X.s₀.heap.objs.size<=s.heap.objs.size:=Nat.le_trans I.ok.above (Nat.le_of_lt I.lt)
def Inv.nofs(I:Inv X pins σ H s)(h:s.heap.objs.size<=a):a∉X.fs:=λhb=>by obtain⟨_,o,ho,_⟩:=I.ok.funs.mem hb;exact absurd (Nat.lt_of_lt_of_le (Heap.lt_size ho) (Nat.le_trans I.sz h)) (Nat.lt_irrefl _)
def Inv.cne(I:Inv X pins σ H s):∀x c,X.env.cells.lookup x=some c->c≠X.env.locals:=λx c e z=>by obtain⟨v,o,ho,hd⟩:=I.cell x c e;obtain⟨m,⟨o',es,ep,ho',hd',_⟩,_⟩:=I.loc;rw[z,ho']at ho;cases ho;rw[hd']at hd;cases hd
def Inv.funs(I:Inv X pins σ H s):s.heap.FunFrames X.base X.outer:=by
 have all:∀(l:List Env),(∀b∈frs l,b∈X.fs)->X.s₀.heap.FunFrames X.base l->s.heap.FunFrames X.base l:=by
  intro l;induction l with
  |nil=>intro _ _;trivial
  |cons env r ih=>intro hs hl;obtain⟨hk,⟨L,o,hf,hn,ho,hd⟩,hr⟩:=hl;have hL:=hs L (by unfold frs;rw[List.filterMap_cons,hf];exact List.mem_cons_self);obtain⟨sl,e⟩:=I.base.slot L o ho (I.ok.frf L hL) hL λz=>I.ok.exfs L z hL;exact⟨hk,⟨L,_,hf,hn,e,hd⟩,ih (λb hb=>hs b (by unfold frs;rw[List.filterMap_cons,hf];exact List.mem_cons_of_mem _ hb)) hr⟩
 exact all X.outer (λ_ hb=>hb) I.ok.funs
def Inv.stack(I:Inv X pins σ H s):s.heap.FunFrames X.base X.stack:=by
 rcases I.ok.stk with e|⟨e,hf⟩;·rw[e];exact I.funs
 ·rw[e];obtain⟨m,hn,_⟩:=I.loc;refine .cons (by rw[I.ok.kind];decide) hf hn ?_ I.funs;exact Heap.get?_none_of_le (Nat.le_trans I.ok.bsz I.ok.above)
def Inv.stkSub(I:Inv X pins σ H s):∀b∈frs X.stack,b∈X.env.locals::X.fs:=λb hb=>by
 rcases I.ok.stk with e|⟨e,hf⟩;·rw[e]at hb;exact List.mem_cons_of_mem _ hb
 ·rw[e]at hb;unfold frs at hb;rw[List.filterMap_cons,hf]at hb;exact hb
def Inv.stkFree(I:Inv X pins σ H s):∀b∈frs X.stack,H b=none:=λb hb=>by
 rcases List.mem_cons.mp (I.stkSub b hb)with e|hb;·rw[e];exact I.free
 ·obtain⟨_,o,ho,_⟩:=I.ok.funs.mem hb;exact I.base.free b o ho (I.ok.frf b hb) λz=>I.ok.exfs b z hb
def Inv.step{g':Array GenState}{t':Nat}{d':Drawn}(I:Inv X pins σ H s)(hch:∀b∈ch,(b∈X.ex\/X.s₀.heap.objs.size<=b)/\b≠X.env.locals/\(∀x c,X.env.cells.lookup x=some c->c≠b)/\∀p∈X.pn++pins,p.1≠b)(keep:∀b o,b≠X.env.locals->b∉X.fs->b∉ch->s.heap.get? b=some o->H b=none->h'.get? b=some o)(slot:∀b o,b≠X.env.locals->b∈X.fs->b∉ch->s.heap.get? b=some o->H b=none->∃sl,h'.get? b=some { o with slots:=sl })(free:∀b o,b∉ch->s.heap.get? b=some o->H b=none->H' b=none)(there:∀b o,b∉ch->s.heap.get? b=some o->∃o',h'.get? b=some o')(tups:∀b xs,H b=some (.tup xs)->H' b=some (.tup xs))(frzs:∀b o u,H b=some (.frz o u)->H' b=some (.frz o u))(tbls:∀b ps,H b=some (.tbl ps)->∃more,H' b=some (.tbl (ps++more)))(ns:∀m,s.heap.Ns X.env.locals m->h'.Ns X.env.locals m)(hok:HOk X.prog X.w H' h')(hg:AllBare g'):
  Inv X pins σ H' { s with heap:=h',gens:=g',drawn:=d',toks:=t' }:=by
 have neL:∀b o,X.s₀.heap.get? b=some o->b≠X.env.locals:=λb o e=>Nat.ne_of_lt (Nat.lt_of_lt_of_le (Heap.lt_size e) I.ok.above);have neC:∀b o,X.s₀.heap.get? b=some o->b∉X.ex->b∉ch:=λb o e hx hb=>by
  rcases (hch b hb).1 with z|z;·exact hx z
  ·exact absurd (Nat.lt_of_lt_of_le (Heap.lt_size e) z) (Nat.lt_irrefl _)
 have cellK:∀x c,X.env.cells.lookup x=some c->∀v,s.heap.IsCell c v->h'.IsCell c v:=λx c e v ⟨o,ho,hd⟩=>by
  have nch:c∉ch:=λz=>(hch c z).2.2.1 x c e rfl;by_cases hc:c∈X.fs;·obtain⟨sl,q⟩:=slot c o (I.cne x c e) hc nch ho (I.freeC x c e);exact⟨_,q,hd⟩
  ·exact⟨o,keep c o (I.cne x c e) hc nch ho (I.freeC x c e),hd⟩
 refine⟨I.ok,I.os,hg,⟨λb o e n hb hx=>?_,λb o e n hb hx=>?_,λb o e n hx=>?_,λb o e hx=>?_,λb xs e=>tups b xs (I.base.tups b xs e),λb o xs e=>frzs b o xs (I.base.frzs b o xs e),λb ps e=>?_⟩,?_,λx c e=>?_,?_,λx c e=>?_,λp hp=>?_,hok,I.len⟩;·exact keep b o (neL b o e) hb (neC b o e hx) (I.base.keep b o e n hb hx) (I.base.free b o e n hx)
 ·obtain⟨sl,e1⟩:=I.base.slot b o e n hb hx;obtain⟨sl',e2⟩:=slot b _ (neL b o e) hb (neC b o e hx) e1 (I.base.free b o e n hx);exact⟨sl',e2⟩
 ·obtain⟨o',e1⟩:=I.base.there b o e hx;exact free b o' (neC b o e hx) e1 (I.base.free b o e n hx)
 ·obtain⟨o',e1⟩:=I.base.there b o e hx;exact there b o' (neC b o e hx) e1
 ·obtain⟨m1,e1⟩:=I.base.tbls b ps e;obtain⟨m2,e2⟩:=tbls b _ e1;exact⟨m1++m2,by rw[e2,Array.append_assoc]⟩
 ·obtain⟨m,hn,hl⟩:=I.loc;refine⟨m,ns m hn,λi x v e1 e2 e3=>?_⟩;obtain⟨u,r,l⟩:=hl i x v e1 e2 e3;refine⟨u,r,?_⟩;rcases l with l|⟨k,c,e,z⟩;·exact .inl l
  ·exact .inr ⟨k,c,e,cellK x c e _ z⟩
 ·obtain⟨v,z⟩:=I.cell x c e;exact⟨v,cellK x c e v z⟩
 ·obtain⟨m,⟨o,_,_,ho,_⟩,_⟩:=I.loc;exact free _ o (λz=>(hch _ z).2.1 rfl) ho I.free
 ·obtain⟨v,o,ho,hd⟩:=I.cell x c e;exact free c o (λz=>(hch c z).2.2.1 x c e rfl) ho (I.freeC x c e)
 ·obtain⟨e,n,ne,nf,d⟩:=I.pin p hp;have nch:p.1∉ch:=λz=>(hch p.1 z).2.2.2 p hp rfl;exact⟨keep p.1 p.2 ne nf nch e n,free p.1 p.2 nch e n,ne,nf,d⟩
def Inv.un{t':Nat}(I:Inv X pins σ H s)(u:Un X.fs [] H H' s.heap h')(hok:HOk X.prog X.w H' h'):Inv X pins σ H' { s with heap:=h',toks:=t' }:=by obtain⟨m,⟨o,es,ep,ho,r⟩,_⟩:=id I.loc;obtain⟨sl,hL⟩:=u.any ho I.free (by simp);exact I.step (ch:=[]) (λ_ z=>nomatch z) (λb o _ hb _ e n=>u.keep b o e n hb (by simp)) (λb o _ hb _ e n=>u.slot b o e n hb (by simp)) (λb o _ e n=>u.free b o e n (by simp)) (λb o _ e=>u.there b o e (by simp)) u.tups u.frzs u.tbls (λm' hm=>by obtain⟨o',es',ep',ho',r'⟩:=hm;rw[ho]at ho';cases ho';exact⟨_,es',ep',hL,r'⟩) hok I.bare
def Inv.call{g':Array GenState}{t':Nat}{d':Drawn}(I:Inv X pins σ H s)(u:Un (frs X.stack) ch H H' s.heap h')(hok:HOk X.prog X.w H' h')(hg:AllBare g')(hch:∀b∈ch,(b∈X.ex\/X.s₀.heap.objs.size<=b)/\b≠X.env.locals/\(∀x c,X.env.cells.lookup x=some c->c≠b)/\∀p∈X.pn++pins,p.1≠b):
  Inv X pins σ H' { s with heap:=h',gens:=g',drawn:=d',toks:=t' }:=by
 obtain⟨m,⟨o,es,ep,ho,r⟩,_⟩:=id I.loc;obtain⟨sl,hL⟩:=u.any ho I.free λz=>(hch _ z).2.1 rfl;exact I.step hch (λb o hL hb hc e n=>u.keep b o e n (λz=>(List.mem_cons.mp (I.stkSub b z)).elim hL hb) hc) (λb o _ _ hc e n=>u.any e n hc) (λb o hc e n=>u.free b o e n hc) (λb o hc e=>u.there b o e hc) u.tups u.frzs u.tbls (λm' hm=>by obtain⟨o',es',ep',ho',r'⟩:=hm;rw[ho]at ho';cases ho';exact⟨_,es',ep',hL,r'⟩) hok hg
def Inv.turned{t':Nat}(I:Inv X pins σ H s)(k:∀b o,b≠it->s.heap.get? b=some o->h'.get? b=some o)(hn:H it=none)(hL:it≠X.env.locals)(h1:it∈X.ex\/X.s₀.heap.objs.size<=it)(h2:∀x c,X.env.cells.lookup x=some c->c≠it)(h3:∀p∈X.pn++pins,p.1≠it):Inv X pins σ H { s with heap:=h',toks:=t' }:=by
 have nit:∀b u,H b=some u->b≠it:=λb u e z=>by rw[z,hn]at e;cases e
 refine I.step (ch:=[it]) (λb hb=>?_) (λb o _ _ hc e _=>k b o (λz=>hc (by simp[z])) e) (λb o _ _ hc e _=>⟨o.slots,k b o (λz=>hc (by simp[z])) e⟩) (λ_ _ _ _ n=>n)
  (λb o hc e=>⟨o,k b o (λz=>hc (by simp[z])) e⟩) (λ_ _ e=>e) (λ_ _ _ e=>e) (λb ps e=>⟨#[],by rw[e];simp⟩) (λm hm=>?_) (λb u e=>?_) I.bare
 ·have e:b=it:=by simpa using hb
  subst e;exact⟨h1,hL,h2,h3⟩
 ·obtain⟨o,es,ep,ho,r⟩:=hm;exact⟨o,es,ep,k _ o (Ne.symm hL) ho,r⟩
 ·refine(I.hok b u e).stay (λc v hc q=>k c v ?_ q) (λ_ q=>q) λ_ _ q=>q;rcases hc with z|z;·rw[z];exact nit b u e
  ·exact nit c _ z
def Inv.tok(I:Inv X pins σ H s)(t:Nat):Inv X pins σ H { s with toks:=t }:=I.un Un.refl I.hok
def Inv.kept{t':Nat}(I:Inv X pins σ H s)(k:∀b u,s.heap.get? b=some u->h'.get? b=some u):Inv X pins σ H { s with heap:=h',toks:=t' }:=I.un (Un.kept k) (I.hok.kept k)
def Inv.laid{o:HO}{t':Nat}(I:Inv X pins σ H s)(k:∀b u,s.heap.get? b=some u->h'.get? b=some u)(hp:s.heap.objs.size<=a)(new:ObjOk X.prog X.w (upd H a o) h' a o):
  Inv X pins σ (upd H a o) { s with heap:=h',toks:=t' }:=I.un (Un.laid k hp (I.hok.fresh hp)) (I.hok.laid k hp new)
def Inv.write{x e:Addr}{o:HO}{t':Nat}(I:Inv X pins σ H s)(mu:Mut (H x))(he:e=x\/H e=some (.own x))(k:∀b u,b≠e->s.heap.get? b=some u->h'.get? b=some u)(heo:∃u,h'.get? e=some u)(new:ObjOk X.prog X.w (upd H x o) h' x o):Inv X pins σ (upd H x o) { s with heap:=h',toks:=t' }:=I.un (Un.write mu he k heo) (I.hok.write mu he k heo new)
def Inv.pins_of{pins':List (Addr×Obj)}(I:Inv X pins σ H s)(h:∀p∈pins',s.heap.get? p.1=some p.2/\H p.1=none/\p.1≠X.env.locals/\p.1∉X.fs/\∀v,p.2.data≠.cell v):Inv X pins' σ H s:=
 ⟨I.ok,I.os,I.bare,I.base,I.loc,I.cell,I.free,I.freeC,λp hp=>(List.mem_append.mp hp).elim (λz=>I.pin p (List.mem_append_left _ z)) (h p),I.hok,I.len⟩
def wK{N:List Str}(hN:N.Nodup)(a:N[i]?=some x)(b:N[j]?=some x):i=j:=by obtain⟨h1,e1⟩:=List.getElem?_eq_some_iff.mp a;obtain⟨h2,e2⟩:=List.getElem?_eq_some_iff.mp b;exact(List.getElem_inj hN).mp (e1.trans e2.symm)
def rR{M:Model}{A:Around}{Q:Unit->Shared->Prop}(I:Inv X pins σ H s)(hN:X.N.Nodup)(hi:X.N[i]?=some x)(hx:Loc X.env.scope x)(r:RelV v u)(h:∀s',Inv X pins (σ.set i (some v)) H s'->(∃a,Heap.SameBut a s.heap s'.heap/\(a=X.env.locals\/X.env.cells.lookup x=some a))->Q () s')(hf:X.fn x=true\/X.env.scope.names.lookup x=some .local:=by first|exact .inl rfl|exact .inr rfl|assumption):wpAny M A (storeName X.env x u) Q E s:=by
 obtain⟨m,hn,hl⟩:=id I.loc;have hcls:(X.env.scope.kind==.class || (X.env.scope.kind==.module && X.env.locals != X.env.globals))=false:=by rw[I.ok.kind];rfl
 have hiσ:i<σ.length:=by rw[I.len];exact(List.getElem?_eq_some_iff.mp hi).1
 have cne:=I.cne;have tracked:∀{a:Addr}{h':Heap},(∃o,s.heap.get? a=some o/\H a=none)->Heap.SameBut a s.heap h'->HOk X.prog X.w H h':=λ{a h'} ha hs b ob e=>by
  obtain⟨_,_,hfree⟩:=ha;refine(I.hok b ob e).stay (λc w' hc q=>(hs.2 c ?_).trans q) (λ_ q=>q) λ_ _ q=>q;rintro rfl;rcases hc with rfl|hc;·rw[hfree]at e;cases e
  ·rw[hfree]at hc;cases hc
 rcases hx with hk|hk
 ·refine wpAny_storeName_local hk hn (λh' hn' hs=>?_) hcls;obtain⟨oL,_,_,hoL,_⟩:=id hn;refine h _ ⟨I.ok,I.os,I.bare,⟨λb o e n hb hx=>?_,λb o e n hb hx=>?_,I.base.free,λb o e hx=>?_,I.base.tups,I.base.frzs,I.base.tbls⟩,⟨_,hn',λj y v' e1 e2 e3=>?_⟩,λy c e=>?_,I.free,I.freeC,λp hp=>?_,tracked ⟨oL,hoL,I.free⟩ hs,by simpa using I.len⟩ ⟨_,hs,.inl rfl⟩;·exact(hs.2 b (Nat.ne_of_lt (Nat.lt_of_lt_of_le (Heap.lt_size e) I.ok.above))).trans (I.base.keep b o e n hb hx)
  ·obtain⟨sl,e1⟩:=I.base.slot b o e n hb hx;exact⟨sl,(hs.2 b (Nat.ne_of_lt (Nat.lt_of_lt_of_le (Heap.lt_size e) I.ok.above))).trans e1⟩
  ·obtain⟨o',e1⟩:=I.base.there b o e hx;exact⟨o',(hs.2 b (Nat.ne_of_lt (Nat.lt_of_lt_of_le (Heap.lt_size e) I.ok.above))).trans e1⟩
  ·by_cases hj:j=i;·subst hj;rw[hi]at e1;cases e1;rw[List.getElem?_set_self hiσ]at e2;cases e2;exact⟨u,r,.inl ⟨hk,by simp⟩⟩
   ·rw[List.getElem?_set_ne (Ne.symm hj)]at e2;obtain⟨u',r',q⟩:=hl j y v' e1 e2 e3;refine⟨u',r',?_⟩;rcases q with⟨k,e⟩|⟨k,c,e,z⟩
    ·refine .inl ⟨k,?_⟩;have:y≠x:=λe=>hj (wK hN e1 (e▸hi));simp[this,e]
    ·exact .inr ⟨k,c,e,z.sameBut hs (cne y c e)⟩
  ·obtain⟨w',z⟩:=I.cell y c e;exact⟨w',z.sameBut hs (cne y c e)⟩
  ·obtain⟨e,n,ne,nf,d⟩:=I.pin p hp;exact⟨(hs.2 p.1 ne).trans e,n,ne,nf,d⟩
 ·have hfn:X.fn x=true:=by
   rcases hf with z|z;·exact z
   ·rw[z]at hk;cases hk
  obtain⟨c,hc⟩:=I.ok.has x (.inl hk);obtain⟨w',z⟩:=I.cell x c hc;refine wpAny_storeName_cell I.ok.kind hk hc z (λh' hc' hs=>?_);obtain⟨oc,hoc,hocd⟩:=id z;refine h { s with heap:=h' } ⟨I.ok,I.os,I.bare,⟨λb o e n hb hx=>?_,λb o e n hb hx=>?_,I.base.free,λb o e hx=>?_,I.base.tups,I.base.frzs,I.base.tbls⟩,⟨m,hn.sameBut hs (Ne.symm (cne x c hc)),λj y v' e1 e2 e3=>?_⟩,λy c' e=>?_,I.free,I.freeC,λp hp=>?_,tracked ⟨oc,hoc,I.freeC x c hc⟩ hs,by simpa using I.len⟩ ⟨c,hs,.inr hc⟩;·exact(hs.2 b (Nat.ne_of_lt (Nat.lt_of_lt_of_le (Heap.lt_size e) (I.ok.cab x c hfn hc)))).trans (I.base.keep b o e n hb hx)
  ·obtain⟨sl,e1⟩:=I.base.slot b o e n hb hx;exact⟨sl,(hs.2 b (Nat.ne_of_lt (Nat.lt_of_lt_of_le (Heap.lt_size e) (I.ok.cab x c hfn hc)))).trans e1⟩
  ·obtain⟨o',e1⟩:=I.base.there b o e hx;exact⟨o',(hs.2 b (Nat.ne_of_lt (Nat.lt_of_lt_of_le (Heap.lt_size e) (I.ok.cab x c hfn hc)))).trans e1⟩
  ·by_cases hj:j=i;·subst hj;rw[hi]at e1;cases e1;rw[List.getElem?_set_self hiσ]at e2;cases e2;exact⟨u,r,.inr ⟨.inl hk,c,hc,hc'⟩⟩
   ·rw[List.getElem?_set_ne (Ne.symm hj)]at e2;obtain⟨u',r',q⟩:=hl j y v' e1 e2 e3;refine⟨u',r',?_⟩;rcases q with q|⟨k,c',e,z'⟩;·exact .inl q
    ·refine .inr ⟨k,c',e,z'.sameBut hs ?_⟩;rintro rfl;exact hj (wK hN e1 (I.ok.inj _ _ _ e hc▸hi))
  ·by_cases hcc:c'=c;·subst hcc;exact⟨_,hc'⟩
   ·obtain⟨w2,z2⟩:=I.cell y c' e;exact⟨w2,z2.sameBut hs hcc⟩
  ·obtain⟨e,n,ne,nf,d⟩:=I.pin p hp;refine⟨(hs.2 p.1 ?_).trans e,n,ne,nf,d⟩;intro q;rw[q,hoc]at e;have q':=Option.some.inj e;exact d w' (by rw[<- q'];exact hocd)
def iI{M:Model}{A:Around}{Q:Unit->Shared->Prop}(I:Inv X pins σ H s)(hN:X.N.Nodup)(hi:X.N[i]?=some x)(hx:Loc X.env.scope x)(r:RelV v u)(h:∀s',Inv X pins (σ.set i (some v)) H s'->Q () s')(hf:X.fn x=true\/X.env.scope.names.lookup x=some .local:=by first|exact .inl rfl|exact .inr rfl|assumption):wpAny M A (storeName X.env x u) Q E s:=
 rR I hN hi hx r (λs' I' _=>h s' I') hf
def Inv.call'(I:Inv X pins σ H s)(ho:s'.os=s.os)(u:Un (frs X.stack) ch H H' s.heap s'.heap)(hok:HOk X.prog X.w H' s'.heap)(hg:AllBare s'.gens)(hch:∀b∈ch,(b∈X.ex\/X.s₀.heap.objs.size<=b)/\b≠X.env.locals/\(∀x c,X.env.cells.lookup x=some c->c≠b)/\∀p∈X.pn++pins,p.1≠b):Inv X pins σ H' s':=by
 obtain⟨h',g',d',t',o'⟩:=s';have e:=ho;subst e;exact I.call u hok hg hch
end
noncomputable abbrev XK:=Value->Option Addr->Hp->Prop
noncomputable abbrev St:=List (Option V)
noncomputable abbrev VK:=V->Hp->Prop
noncomputable abbrev TE:=St->Hp->VK->Prop
noncomputable abbrev TT:=St->Hp->(Bool->Hp->Prop)->Prop
noncomputable abbrev TA:=St->Hp->(List V->Hp->Prop)->Prop
structure Ends where
 nx:St->Hp->Prop
 rt:VK
 bk:St->Hp->Prop:=λ_ _=>False
 ct:St->Hp->Prop:=λ_ _=>False
noncomputable abbrev TS:=Ends->St->Hp->Prop
noncomputable def EP(X:Cx)(pins:List (Addr×Obj))(σ:St)(Q:VK)(u:Value)(s':Shared):Prop:=∃v H',Inv X pins σ H' s'/\RelV v u/\Q v H'
noncomputable def TP(X:Cx)(pins:List (Addr×Obj))(σ:St)(Q:Bool->Hp->Prop)(b:Bool)(s':Shared):Prop:=∃H',Inv X pins σ H' s'/\Q b H'
noncomputable def AP(X:Cx)(pins:List (Addr×Obj))(σ:St)(Q:List V->Hp->Prop)(us:List Value)(s':Shared):Prop:=∃vs H',Inv X pins σ H' s'/\Vals vs us/\Q vs H'
noncomputable def SP(X:Cx)(pins:List (Addr×Obj))(D:Ends)(f:Flow)(s':Shared):Prop:=
 match f with
 |.next=>∃σ' H',Inv X pins σ' H' s'/\D.nx σ' H'
 |.brk=>∃σ' H',Inv X pins σ' H' s'/\D.bk σ' H'
 |.cont=>∃σ' H',Inv X pins σ' H' s'/\D.ct σ' H'
 |.ret u=>∃v σ' H',Inv X pins σ' H' s'/\RelV v u/\D.rt v H'
noncomputable def PE(X:Cx)(e:Expr)(t:TE):Prop:=
 ∀(pins:List (Addr×Obj))(s:Shared)(σ:St)(H:Hp)(Q:VK),Inv X pins σ H s->t σ H Q->wpAny (model X.prog X.w) X.A (eval e X.env) (EP X pins σ Q) X.xe s
noncomputable def PT(X:Cx)(e:Expr)(t:TT):Prop:=
 ∀(pins:List (Addr×Obj))(s:Shared)(σ:St)(H:Hp)(Q:Bool->Hp->Prop),Inv X pins σ H s->t σ H Q->wpAny (model X.prog X.w) X.A (isTrue e X.env (eval e X.env)) (TP X pins σ Q) X.xe s
noncomputable def PW(X:Cx)(e:Expr)(t:TT):Prop:=
 ∀(whole:Sem Value)(pins:List (Addr×Obj))(s:Shared)(σ:St)(H:Hp)(Q:Bool->Hp->Prop),Inv X pins σ H s->t σ H Q->wpAny (model X.prog X.w) X.A (isTrue e X.env whole) (TP X pins σ Q) X.xe s
def PW.pt{X:Cx}{e:Expr}{t:TT}(h:PW X e t):PT X e t:=h _
noncomputable def PA(X:Cx)(es:List Expr)(t:TA):Prop:=
 ∀(pos:Pos)(pins:List (Addr×Obj))(s:Shared)(σ:St)(H:Hp)(Q:List V->Hp->Prop),Inv X pins σ H s->t σ H Q->wpAny (model X.prog X.w) X.A (spliced (backTo pos (starEach es X.env))) (AP X pins σ Q) X.xe s
noncomputable def PS(X:Cx)(st:Stmt)(t:TS):Prop:=
 ∀(pins:List (Addr×Obj))(s:Shared)(σ:St)(H:Hp)(D:Ends),Inv X pins σ H s->t D σ H->wpAny (model X.prog X.w) X.A (exec st X.env) (SP X pins D) X.xe s
noncomputable def PSs(X:Cx)(st:List Stmt)(t:TS):Prop:=
 ∀(pins:List (Addr×Obj))(s:Shared)(σ:St)(H:Hp)(D:Ends),Inv X pins σ H s->t D σ H->wpAny (model X.prog X.w) X.A (execs st X.env) (SP X pins D) X.xe s
def thn{α:Type}{t:Sem α}{Q Q':α->Shared->Prop}{M:Model}{A:Around}(h:wpAny M A t Q E s)(hQ:∀a s,Q a s->Q' a s):wpAny M A t Q' E s:=wpAny_mono h hQ λ_ _ x=>x
end L2
variable{X:L2.Cx}{σ:L2.St}{ta:L2.TA}
namespace L2
open PySem PySem.Spec PyProof.Rows
section
noncomputable def Gz(i:Nat):TE:=λσ H Q=>∃v,σ[i]?=some (some v)/\Q v H
noncomputable def tC(v:V):TE:=λ_ H Q=>Q v H
def dA(hN:X.N[i]?=some x)(hv:Vis X.env.scope x)(hd:(x==("__debug__":Str))=false:=by decide)(hcd:(x==("__classdict__":Str))=false:=by decide):PE X (.Name x pos) (Gz i):=by
 intro pins s σ H Q I h;obtain⟨v,e,h⟩:=h;obtain⟨m,hn,hl⟩:=I.loc;obtain⟨u,r,l⟩:=hl i x v hN e hv;have fin:EP X pins σ Q u s:=⟨v,H,I,r,h⟩
 rcases l with⟨hk,hm⟩|⟨hk,c,hc,hcell⟩;·exact wpAny_Name (wpAny_loadName_local I.ok.kind hk hn hm fin) hd
 ·rcases hk with hk|hk;·exact wpAny_Name (wpAny_loadName_cell I.ok.kind hk hc hcell fin) hd
  ·exact wpAny_Name (wpAny_loadName_free I.ok.kind hk hc hcell fin hcd) hd
def Ke {i j pos}:PE X (.Constant (.int i) j pos) (tC (.int i)):=λ_ _ _ H _ I h=>wpAny_Constant_int ⟨.int i,H,I.tok _,⟨_,rfl⟩,h⟩
def LI {b j pos}:PE X (.Constant (.bool b) j pos) (tC (.bl b)):=λ_ _ _ H _ I h=>Constant_bool ⟨.bl b,H,I,rfl,h⟩
def J2 {j pos}:PE X (.Constant .none j pos) (tC .non):=λ_ _ _ H _ I h=>Constant_none ⟨.non,H,I,rfl,h⟩
def Jb {x j pos}:PE X (.Constant (.str x) j pos) (tC (.str x)):=λ_ _ _ H _ I h=>Calls.Constant_str ⟨.str x,H,I.tok _,⟨_,rfl⟩,h⟩
noncomputable def Gl(X:Cx)(x:Str):Prop:=X.env.kindOf x=some .globalImplicit
def mi{Q:Value->Shared->Prop}(I:Inv X pins σ H s)(hg:Gl X x)(hm:X.mg x=some u)(h:Q u s)(hd:(x==("__debug__":Str))=false:=by decide):wpAny (model X.prog X.w) X.A (eval (.Name x pos) X.env) Q E s:=
 Calls.Name_function_global I.ok.kind hg (Calls.loadGlobal_global (by rw[I.ok.glob];exact I.mod.glob.keeps I.bk) hm h) hd
def mK{Q:Value->Shared->Prop}(I:Inv X pins σ H s)(hg:Gl X x)(hm:X.mg x=none)(hv:bootBuiltins x=some u)(h:Q u s)(hn:x≠"__name__":=by decide)(hd:(x==("__debug__":Str))=false:=by decide):wpAny (model X.prog X.w) X.A (eval (.Name x pos) X.env) Q E s:=by
 obtain⟨mb,h1,h2⟩:=I.mod.blt;exact Calls.Name_function_global I.ok.kind hg (Calls.loadGlobal_builtin (by rw[I.ok.glob];exact I.mod.glob.keeps I.bk) hm (by rw[I.ok.blt];exact h1.keeps I.bk) ((h2 x hn).trans hv) h) hd
def pI(hg:Gl X x)(hm:X.mg x=some u)(r:RelV v u)(hd:(x==("__debug__":Str))=false:=by decide):PE X (.Name x pos) (tC v):=
 λ_ _ _ H _ I h=>mi I hg hm ⟨v,H,I,r,h⟩ hd
def EE(hg:Gl X x)(hm:X.mg x=none)(hv:bootBuiltins x=some u)(r:RelV v u)(hn:x≠"__name__":=by decide)(hd:(x==("__debug__":Str))=false:=by decide):PE X (.Name x pos) (tC v):=
 λ_ _ _ H _ I h=>mK I hg hm hv ⟨v,H,I,r,h⟩ hn hd
variable{a b:Expr}{ta tb:TE}
noncomputable def PC(X:Cx)(op:CmpOp)(a b:Expr)(t:TE):Prop:=
 ∀(pins:List (Addr×Obj))(s:Shared)(σ:St)(H:Hp)(Q:VK),Inv X pins σ H s->t σ H Q->
  wpAny (model X.prog X.w) X.A (eval a X.env) (λv s₁=>wpAny (model X.prog X.w) X.A (eval b X.env) (λu s₂=>wpAny (model X.prog X.w) X.A (compareOp op v u) (EP X pins σ Q) X.xe s₂) X.xe s₁) X.xe s
variable{tA tB':TT}{cT:List Expr}
noncomputable def Nw(t u:TT):TT:=λσ H Q=>t σ H λc H1=>if c=true then u σ H1 Q else Q false H1
noncomputable def tOr(t u:TT):TT:=λσ H Q=>t σ H λc H1=>if c=true then Q true H1 else u σ H1 Q
noncomputable def Nu(t:TT):TT:=λσ H Q=>t σ H λc H1=>Q (!c) H1
def Gs(ha:PT X a tA):PW X (.BoolOp .And [a] pos) tA:=by
 intro wh pins s σ H Q I h;refine isTrue_and (thn (ha pins s σ H Q I h) λc s1 e=>?_);cases c with
 |true=>exact isTrue_and_nil e
 |false=>exact e
def DE(ha:PT X a tA):PW X (.BoolOp .Or [a] pos) tA:=by
 intro wh pins s σ H Q I h;refine isTrue_or (thn (ha pins s σ H Q I h) λc s1 e=>?_);cases c with
 |false=>exact isTrue_or_nil e
 |true=>exact e
def IH(ha:PT X a tA)(hb:PW X (.BoolOp .And (b::cT) pos) tB'):PW X (.BoolOp .And (a::b::cT) pos) (Nw tA tB'):=by
 intro wh pins s σ H Q I h;refine isTrue_and (thn (ha pins s σ H _ I h) λc s1 ⟨H1,I1,q1⟩=>?_);cases c with
 |true=>exact hb wh pins s1 σ H1 Q I1 q1
 |false=>exact⟨H1,I1,q1⟩
def Kg(ha:PT X a tA)(hb:PW X (.BoolOp .Or (b::cT) pos) tB'):PW X (.BoolOp .Or (a::b::cT) pos) (tOr tA tB'):=by
 intro wh pins s σ H Q I h;refine isTrue_or (thn (ha pins s σ H _ I h) λc s1 ⟨H1,I1,q1⟩=>?_);cases c with
 |true=>exact⟨H1,I1,q1⟩
 |false=>exact hb wh pins s1 σ H1 Q I1 q1
def Hl(ha:PT X a tA):PT X (.UnaryOp .Not a pos) (Nu tA):=by intro pins s σ H Q I h;exact isTrue_not (ha pins s σ H (λc H1=>Q (!c) H1) I h)
noncomputable def Mf(ta tb:TE):TE:=λσ H Q=>ta σ H λx H1=>∃c,x=.bl c/\if c=true then tb σ H1 Q else Q (.bl false) H1
noncomputable def Og(ta tb:TE):TE:=λσ H Q=>ta σ H λx H1=>∃c,x=.bl c/\if c=true then Q (.bl true) H1 else tb σ H1 Q
noncomputable def LU(ta:TE):TE:=λσ H Q=>ta σ H λx H1=>∃c,x=.bl c/\Q (.bl (!c)) H1
def J4 {op} {t:TE} (h:PE X a t):PE X (.BoolOp op [a] pos) t:=λpins s σ H Q I hw=>BoolOp_one (h pins s σ H Q I hw)
def Kd(ha:PE X a ta)(hb:PE X (.BoolOp .And (b::cT) pos) tb):PE X (.BoolOp .And (a::b::cT) pos) (Mf ta tb):=by
 intro pins s σ H Q I h;refine BoolOp_and (thn (ha pins s σ H _ I h) λv s1 ⟨x,H1,I1,r1,q1⟩=>?_);obtain⟨c,rfl,q1⟩:=q1;cases r1;refine wpAny_truthy_bool ?_;cases c with
 |true=>exact hb pins s1 σ H1 Q I1 q1
 |false=>exact⟨.bl false,H1,I1,rfl,q1⟩
def KZ(ha:PE X a ta)(hb:PE X (.BoolOp .Or (b::cT) pos) tb):PE X (.BoolOp .Or (a::b::cT) pos) (Og ta tb):=by
 intro pins s σ H Q I h;refine BoolOp_or (thn (ha pins s σ H _ I h) λv s1 ⟨x,H1,I1,r1,q1⟩=>?_);obtain⟨c,rfl,q1⟩:=q1;cases r1;refine wpAny_truthy_bool ?_;cases c with
 |false=>exact hb pins s1 σ H1 Q I1 q1
 |true=>exact⟨.bl true,H1,I1,rfl,q1⟩
def JU(ha:PE X a ta):PE X (.UnaryOp .Not a pos) (LU ta):=by intro pins s σ H Q I h;refine UnaryOp_ (thn (ha pins s σ H _ I h) λv s1 ⟨x,H1,I1,r1,q1⟩=>?_);obtain⟨c,rfl,q1⟩:=q1;cases r1;exact not_of (wpAny_truthy_bool ⟨.bl (!c),H1,I1,rfl,q1⟩)
noncomputable def tIf(t:TT)(ta tb:TE):TE:=λσ H Q=>t σ H λc H1=>if c=true then ta σ H1 Q else tb σ H1 Q
def CC{c:Expr}(hc:PT X c tA)(ha:PE X a ta)(hb:PE X b tb):PE X (.IfExp c a b pos) (tIf tA ta tb):=by
 intro pins s σ H Q I h;refine wpAny_IfExp (thn (hc pins s σ H _ I h) λd s1 ⟨H1,I1,q1⟩=>?_);cases d with
 |true=>exact ha pins s1 σ H1 Q I1 q1
 |false=>exact hb pins s1 σ H1 Q I1 q1
end
noncomputable def SqL(K:W.Frag)(H:Hp)(a:Addr)(xs:List V):Prop:=
 Rd H a (.lst xs)\/
  ∃(o:Obj)(its:Array Value)(n:Nat),K.lookup a=some o/\o.cls=.type "list"/\o.dict=none/\o.data=.seq its n/\its.size<=sizeLine/\Vals xs its.toList
noncomputable def SqT(K:W.Frag)(H:Hp)(a:Addr)(xs:List V):Prop:=
 Rd H a (.tup xs)\/
  ∃(o:Obj)(its:Array Value)(n:Nat),K.lookup a=some o/\o.cls=.type "tuple"/\o.data=.seq its n/\its.size<=sizeLine/\Vals xs its.toList
noncomputable def NJ:Value->Option V
 |.none=>some .non
 |.bool b=>some (.bl b)
 |.int i _=>some (.int i)
 |.str x _=>some (.str x)
 |.bytes b _=>some (.byt b)
 |.float b _=>some (.flt b)
 |.ref a=>some (.ref a)
 |.type n=>some (.ty n)
 |_=>none
def RelV.abs{x:V}(r:RelV x u):NJ u=some x:=by
 cases x with
 |non=>cases r;rfl
 |bl _=>cases r;rfl
 |int _=>obtain⟨t,rfl⟩:=r;rfl
 |str _=>obtain⟨t,rfl⟩:=r;rfl
 |byt _=>obtain⟨t,rfl⟩:=r;rfl
 |flt _=>obtain⟨t,rfl⟩:=r;rfl
 |ref _=>cases r;rfl
 |ty _=>cases r;rfl
def RelV.inj{x y:V}(r:RelV x u)(q:RelV y u):x=y:=Option.some.inj (r.abs.symm.trans q.abs)
theorem Vals.inj:∀{xs ys:List V}{us:List Value},Vals xs us->Vals ys us->xs=ys
 |_,_,_,.nil,.nil=>rfl
 |_,_,_,.cons r t,.cons r' t'=>by rw[r.inj r',Vals.inj t t']
section
variable{ys:List V}
def SqL.of{K:W.Frag}(h:H a=some (.lst xs)):SqL K H a xs:=.inl (.inl h)
def SqT.of{K:W.Frag}(h:H a=some (.tup xs)):SqT K H a xs:=.inl (.inl h)
def Inv.list(I:Inv X pins σ H s)(h:SqL X.K H a xs):∃its:List Value,Vals xs its/\PlainL s.heap a its.toArray/\xs.length<=sizeLine:=by
 rcases h with h|⟨o,its,n,hk,hc,hd,hs,hz,r⟩;·obtain⟨z,its,n,r,e⟩:=h.ok I.hok;exact⟨its,r,⟨_,n,e,rfl,rfl,rfl⟩,z⟩
 ·refine⟨its.toList,r,⟨o,n,I.kIn a o hk,hc,hd,by simpa using hs⟩,?_⟩;have e:=r.length;simp only[Array.length_toList]at e;omega
def Inv.tuple(I:Inv X pins σ H s)(h:SqT X.K H a xs):∃its:List Value,Vals xs its/\IsTup s.heap a its.toArray/\xs.length<=sizeLine:=by
 rcases h with h|⟨o,its,n,hk,hc,hs,hz,r⟩;·obtain⟨z,its,r,p⟩:=h.ok I.hok;exact⟨its,r,p,z⟩
 ·refine⟨its.toList,r,⟨o,I.kIn a o hk,hc,n,by simpa using hs⟩,?_⟩;have e:=r.length;simp only[Array.length_toList]at e;omega
def Inv.list_inj(I:Inv X pins σ H s)(h:SqL X.K H a xs)(h':SqL X.K H a ys):xs=ys:=by
 obtain⟨its,r,⟨o,n,e,_,_,d⟩,_⟩:=I.list h;obtain⟨its',r',⟨o',n',e',_,_,d'⟩,_⟩:=I.list h';rw[e]at e';cases e';rw[d]at d';injection d' with d1 _;have:its=its':=by simpa using congrArg Array.toList d1
 subst this;exact r.inj r'
def Inv.tuple_inj(I:Inv X pins σ H s)(h:SqT X.K H a xs)(h':SqT X.K H a ys):xs=ys:=by
 obtain⟨its,r,⟨o,e,_,n,d⟩,_⟩:=I.tuple h;obtain⟨its',r',⟨o',e',_,n',d'⟩,_⟩:=I.tuple h';rw[e]at e';cases e';rw[d]at d';injection d' with d1 _;have:its=its':=by simpa using congrArg Array.toList d1
 subst this;exact r.inj r'
end
noncomputable abbrev Cx.wish(X:Cx)(E:Value->Shared->Prop):Cx:={ X with xe:=E }
section
variable{cT:List Stmt}{t u:TS}{e:Expr}{te:TE}
noncomputable def Mu:TS:=λD σ H=>D.nx σ H
noncomputable def N7(t u:TS):TS:=λD σ H=>t { D with nx:=u D } σ H
def GH:PSs X [] Mu:=λ_ _ σ H _ I h=>wpAny_execs_nil ⟨σ,H,I,h⟩
def iW(h1:PS X st t)(h2:PSs X cT u):PSs X (st::cT) (N7 t u):=by
 intro pins s σ H D I h;refine wpAny_execs_cons (thn (h1 pins s σ H { D with nx:=u D } I h) λf s1 q=>?_);cases f with
 |next=>obtain⟨σ',H',I',q⟩:=q;exact h2 pins s1 σ' H' D I' q
 |ret v=>exact q
 |brk=>exact q
 |cont=>exact q
def Inv.quiet(I:Inv X pins σ H s):interactive X.env=false:=by simp[interactive,I.ok.kind]
noncomputable def Lb(te:TE):TS:=λD σ H=>te σ H λ_ H1=>D.nx σ H1
def jx(he:PE X e te)(hs:swapsWith e none pos.line X.env=pure false:=by rfl):PS X (.Expr e pos) (Lb te):=by intro pins s σ H D I h;exact wpAny_Expr_any (thn (he pins s σ H _ I h) λv s1 ⟨x,H1,I1,r1,q1⟩=>⟨σ,H1,I1,q1⟩) I.quiet hs
noncomputable def NY(te:TE):TS:=λD σ H=>te σ H D.rt
def Ax(he:PE X e te):PS X (.Return (some e) pos) (NY te):=by intro pins s σ H D I h;exact wpAny_Return_some (thn (he pins s σ H _ I h) λv s1 ⟨x,H1,I1,r1,q1⟩=>⟨x,σ,H1,I1,r1,q1⟩)
noncomputable def Np(c:TT)(t u:TS):TS:=λD σ H=>c σ H λb H1=>if b=true then t D σ H1 else u D σ H1
def Ft{c:Expr}{a b:List Stmt}{tc:TT}(hc:PT X c tc)(ha:PSs X a t)(hb:PSs X b u):PS X (.If c a b pos) (Np tc t u):=by
 intro pins s σ H D I h;refine wpAny_If (thn (hc pins s σ H _ I h) λd s1 ⟨H1,I1,q1⟩=>?_);cases d with
 |true=>exact ha pins s1 σ H1 D I1 q1
 |false=>exact hb pins s1 σ H1 D I1 q1
end
noncomputable abbrev TG:=V->St->Hp->(St->Hp->Prop)->Prop
noncomputable abbrev TGs:=List V->St->Hp->(St->Hp->Prop)->Prop
noncomputable def PG(X:Cx)(target:Expr)(t:TG):Prop:=
 ∀(pins:List (Addr×Obj))(s:Shared)(σ:St)(H:Hp)(v:V)(u:Value)(Q:St->Hp->Prop),Inv X pins σ H s->RelV v u->t v σ H Q->
  wpAny (model X.prog X.w) X.A (assign target X.env u) (λ_ s'=>∃σ' H',Inv X pins σ' H' s'/\Q σ' H') X.xe s
noncomputable def PGs(X:Cx)(ts:List Expr)(t:TGs):Prop:=
 ∀(pins:List (Addr×Obj))(s:Shared)(σ:St)(H:Hp)(vs:List V)(us:List Value)(Q:St->Hp->Prop),Inv X pins σ H s->Vals vs us->t vs σ H Q->
  wpAny (model X.prog X.w) X.A (assignInOrder ((assignEach ts X.env).map (·.2)) us) (λ_ s'=>∃σ' H',Inv X pins σ' H' s'/\Q σ' H') X.xe s
noncomputable abbrev Kz:=V->V->V->Hp->(Hp->Prop)->Prop
noncomputable def K8(X:Cx)(t:Kz):Prop:=
 ∀(pins:List (Addr×Obj))(s:Shared)(σ:St)(H:Hp)(o i v:V)(ov iv u:Value)(Q:Hp->Prop),Inv X pins σ H s->RelV o ov->RelV i iv->RelV v u->t o i v H Q->
  wpAny (model X.prog X.w) X.A (setItem ov iv u) (λ_ s'=>∃H',Inv X pins σ H' s'/\Q H') X.xe s
section
noncomputable def Mi(i:Nat):TG:=λv σ H Q=>Q (σ.set i (some v)) H
def jn(hN:X.N.Nodup)(hi:X.N[i]?=some x)(hx:Loc X.env.scope x)(hf:X.fn x=true\/X.env.scope.names.lookup x=some .local:=by first|exact .inl rfl|exact .inr rfl|assumption):PG X (.Name x pos) (Mi i):=by intro pins s σ H v u Q I r h;exact wpAny_assign_Name (iI I hN hi hx r (λs' I'=>⟨_,H,I',h⟩) hf)
noncomputable def Ox:TGs:=λvs σ H Q=>vs=[]/\Q σ H
noncomputable def ML(t:TG)(u:TGs):TGs:=λvs σ H Q=>∃v r,vs=v::r/\t v σ H λσ' H'=>u r σ' H' Q
def ET:PGs X [] Ox:=by intro pins s σ H vs us Q I r h;obtain⟨e,h⟩:=h;exact assignInOrder_nil ⟨σ,H,I,h⟩
def Dm{e:Expr}{t:TG}{u:TGs}(h1:PG X e t)(h2:PGs X es u)(hs:(assignEach (e::es) X.env).map (·.2)=assign e X.env::(assignEach es X.env).map (·.2):=by rfl):PGs X (e::es) (ML t u):=by
 intro pins s σ H vs us Q I r h;obtain⟨v,vr,e1,h⟩:=h;subst e1;cases r with
 |cons r rr=>rw[hs];refine assignInOrder_cons (thn (h1 pins s σ H _ _ _ I r h) λ_ s1 ⟨σ1,H1,I1,q1⟩=>?_);exact h2 pins s1 σ1 H1 _ _ Q I1 rr q1
noncomputable def Op(K:W.Frag)(n:Nat)(t:TGs):TG:=λv σ H Q=>∃a xs,v=.ref a/\SqT K H a xs/\xs.length=n/\t xs σ H Q
def Kp{t:TGs}{n:Nat}(hc:X.calm=true)(h:PGs X es t)(hn:(assignEach es X.env).length=n:=by rfl)(hst:(assignEach es X.env).findIdx? (·.1)=none:=by rfl):PG X (.Tuple es k pos) (Op X.K n t):=by
 intro pins s σ H v u Q I r hw;obtain⟨a,xs,e1,hq,hl,hw⟩:=hw;subst e1;cases r;obtain⟨its,rv,ht,hz⟩:=I.tuple hq;refine assign_Tuple_tuple (I.ok.hd hc) ht (by simp[hn,<- hl,rv.length]) hst λh' hx=>?_;have I1:Inv X pins σ H { s with heap:=h' }:=I.kept λb o e=>hx b o (Nat.ne_of_lt (Heap.lt_size e)) e;exact h pins _ σ H xs _ Q I1 (by simpa using rv) hw
noncomputable def NI(to ti:TE)(t:Kz):TG:=λv σ H Q=>to σ H λo H1=>ti σ H1 λi H2=>t o i v H2 λH3=>Q σ H3
def Eo{o i:Expr}{to ti:TE}{t:Kz}(ho:PE X o to)(hi:PE X i ti)(hs:K8 X t)(ha:∀v,assign (.Subscript o i pos) X.env v=(do
 let ov <- holding [v] (eval o X.env);let iv <- holding [v,ov] (eval i X.env)
 standAt pos
 holding [v,ov,iv] (setItem ov iv v)
 release [v,ov,iv] []):=by intro _;rfl):PG X (.Subscript o i pos) (NI to ti t):=by
 intro pins s σ H v u Q I r h;refine wpAny_bind (wpAny_holding (thn (ho pins s σ H _ I h) λov s1 ⟨x,H1,I1,r1,q1⟩=>?_));refine wpAny_bind (wpAny_holding (thn (hi pins s1 σ H1 _ I1 q1) λiv s2 ⟨y,H2,I2,r2,q2⟩=>?_));refine wpAny_bind (wpAny_standAt (wpAny_bind (wpAny_holding (thn (hs pins s2 σ H2 x y v ov iv u _ I2 r1 r2 r q2) λ_ s3 ⟨H3,I3,q3⟩=>?_))));exact wpAny_release ⟨σ,H3,I3,q3⟩
noncomputable def NA(te:TE)(g:TG):TS:=λD σ H=>te σ H λx H1=>g x σ H1 D.nx
def kU{tg e:Expr}{te:TE}{g:TG}(he:PE X e te)(hg:PG X tg g)(hs:swapsWithSole [tg] e pos.line X.env=pure false:=by rfl)(hw:swappedStores [tg] e X.env=pure none:=by rfl)(h1:(assignEach [tg] X.env).map (·.2)=[assign tg X.env]:=by rfl):PS X (.Assign [tg] e pos) (NA te g):=by
 intro pins s σ H D I h;refine wpAny_Assign_stores (thn (he pins s σ H _ I h) λv s1 ⟨x,H1,I1,r1,q1⟩=>?_) hs hw;rw[h1];exact thn (hg pins s1 σ H1 x v _ I1 r1 q1) λ_ s2 q=>q
noncomputable def Ow(i j:Nat)(ta:TA):TS:=λD σ H=>ta σ H λvs H1=>∃v w,vs=[v,w]/\D.nx ((σ.set i (some v)).set j (some w)) H1
def Jn{a b:Expr}{px pt:Pos} {kt k2 pt2} (hc:X.calm=true) (hN:X.N.Nodup) (hi:X.N[i]?=some x) (hj:X.N[j]?=some y) (hij:i≠j)
 (hx:X.env.scope.names.lookup x=some .local) (hy:X.env.scope.names.lookup y=some .local) (ha:PA X [a,b] ta)
 (hw:swappedStores [.Tuple [.Name x px,.Name y py] kt pt] (.Tuple [a,b] k2 pt2) X.env=pure (some [x,y]))
 (hs:swapsWithSole [.Tuple [.Name x px,.Name y py] kt pt] (.Tuple [a,b] k2 pt2) pos.line X.env=pure false:=by rfl) :
  PS X (.Assign [.Tuple [.Name x px,.Name y py] kt pt] (.Tuple [a,b] k2 pt2) pos) (Ow i j ta):=by
 intro pins s σ H D I h;refine wpAny_bind (wpAny_standAt ?_);refine wpAny_bind (wpAny_pure ?_);refine wpAny_bind (Tuple_ (thn (ha _ pins s σ H _ I h) λus s1 ⟨vs,H1,I1,r1,q1⟩=>?_));obtain⟨v,w,e1,q1⟩:=q1;subst e1;obtain⟨u1,u2,rfl,rv,rw'⟩:∃u1 u2,us=[u1,u2]/\RelV v u1/\RelV w u2:=by
  cases r1 with
  |cons p q=>
   cases q with
   |cons p' q'=>cases q';exact⟨_,_,rfl,p,p'⟩
 refine wpAny_newObj_type ?_ (by show 2<=sizeLine;decide);have I2:Inv X pins σ H1 { s1 with heap:=s1.heap.push { cls:=.type "tuple",data:=.seq [u1,u2].toArray } }:=I1.kept λb o e=>Heap.get?_push_of_some _ e;rw[hw];refine wpAny_bind (wpAny_pure ?_);refine wpAny_bind (wpAny_rule (wpAny_bind (unpackItems_tuple (items:=#[u1,u2]) (I.ok.hd hc) (IsTup.new s1.heap _) λh' hx'=>?_)));have I3:=I2.kept (t':=s1.toks) λb o e=>hx' b o (Nat.ne_of_lt (Heap.lt_size e)) e;refine wpAny_bind (assignInOrder_cons (wpAny_bindName (iI I3 hN hj (.inl hy) rw' (λs2 I4=>?_) (.inr hy))));refine assignInOrder_cons (wpAny_bindName (iI I4 hN hi (.inl hx) rv (λs3 I5=>assignInOrder_nil (wpAny_pure ?_)) (.inr hx)));rw[List.set_comm _ _ (Ne.symm hij)]at I5;exact⟨_,H1,I5,q1⟩
end
structure It where
 go:Nat->Hp->Prop
 yld:Nat->Hp->V->Hp->Prop
 stop:Nat->Hp->Prop
noncomputable def oS(X:Cx)(pins:List (Addr×Obj))(H:Hp)(b:Addr):Prop:=
 H b=none/\b≠X.env.locals/\b∉X.fs/\(b∈X.ex\/X.s₀.heap.objs.size<=b)/\(∀x c,X.env.cells.lookup x=some c->c≠b)/\∀p∈X.pn++pins,p.1≠b
def Inv.fpOk(I:Inv X pins σ H s)(hb:s.heap.objs.size<=b)(hn:H' b=none):oS X pins H' b:=by
 refine⟨hn,Nat.ne_of_gt (Nat.lt_of_lt_of_le I.lt hb),I.nofs hb,.inr (Nat.le_trans I.sz hb),λx c e z=>?_,λp hp z=>?_⟩;·obtain⟨v,q⟩:=I.cell x c e;exact absurd (Nat.lt_of_lt_of_le q.lt (by rw[z];exact hb)) (Nat.lt_irrefl _)
 ·exact absurd (Nat.lt_of_lt_of_le (Heap.lt_size (I.pin p hp).1) (by rw[z];exact hb)) (Nat.lt_irrefl _)
structure Turn(P:Program)(w:World)(K:W.Frag)(tg:Expr)(J:It)(fp:List Addr)(it:Addr)(tn:Nat->Heap->Prop):Prop where
 mem:it∈fp
 obj:∀i h,tn i h->∀b∈fp,∃o,h.get? b=some o/\∀v,o.data≠.cell v
 keep:∀i h h',tn i h->(∀b∈fp,∀o,h.get? b=some o->h'.get? b=some o)->tn i h'
 item:∀(X:Cx),X.prog=P->X.w=w->X.K=K->X.calm=true->∀(i:Nat)(pins:List (Addr×Obj))(s:Shared)(σ:St)(H:Hp)(E:Value->Shared->Prop),Inv X pins σ H s->(∀b∈fp,oS X pins H b)->tn i s.heap->J.go i H->
  wpAny (model P w) X.A (pyNext (.ref it)) (λr s1=>∃u,r=some u/\
   wpAny (model P w) X.A (letOwnedTupleGo tg (.ref it) u) (λ_ s2=>∃x H',Inv X pins σ H' s2/\RelV x u/\J.yld i H x H'/\tn (i+1) s2.heap/\∀b∈fp,H' b=none) E s1) E s
 done:∀(X:Cx),X.prog=P->X.w=w->X.K=K->X.calm=true->∀(i:Nat)(pins:List (Addr×Obj))(s:Shared)(σ:St)(H:Hp)(E:Value->Shared->Prop),Inv X pins σ H s->(∀b∈fp,oS X pins H b)->tn i s.heap->J.stop i H->
  wpAny (model P w) X.A (pyNext (.ref it)) (λr s1=>r=none/\Inv X pins σ H s1) E s
 self:∀(A:Around)(i:Nat)(s:Shared)(Q:Value->Shared->Prop)(E:Value->Shared->Prop),tn i s.heap->Q (.ref it) s->wpAny (model P w) A (pyIter (.ref it)) Q E s
noncomputable abbrev TI:=St->Hp->(It->Hp->Prop)->Prop
noncomputable def PIE(X:Cx)(pins:List (Addr×Obj))(σ:St)(tg:Expr)(R:It->Hp->Prop)(itv:Value)(s2:Shared):Prop:=
 ∃(it:Addr)(fp:List Addr)(tn:Nat->Heap->Prop)(J:It)(H':Hp),itv=.ref it/\Inv X pins σ H' s2/\Turn X.prog X.w X.K tg J fp it tn/\tn 0 s2.heap/\(∀b∈fp,oS X pins H' b)/\R J H'
noncomputable def PI(X:Cx)(tg iter:Expr)(wi:TI):Prop:=
 ∀(pins:List (Addr×Obj))(s:Shared)(σ:St)(H:Hp)(R:It->Hp->Prop),Inv X pins σ H s->wi σ H R->
  wpAny (model X.prog X.w) X.A (eval iter X.env) (λv s1=>wpAny (model X.prog X.w) X.A (pyIter v) (PIE X pins σ tg R) X.xe s1) X.xe s
def yq{M : Model}{A : Around}{tg : Expr}{o : Obj}{n : String}{vs : Array Value}{Q : Unit -> Shared -> Prop}(ho : s.heap.get? it = some o)(hc : o.cls = .type n)(hd : o.data = .fields vs)(hn : ["enumerate", "zip", "dict_itemiterator", "dict_reverseitemiterator", "odict_iterator", "itertools.zip_longest", "itertools.pairwise"].contains n = false)(hQ : Q () s): wpAny M A (letOwnedTupleGo tg (.ref it) u) Q E s := by
  cases tg <;> first
    |exact wpAny_pure hQ
    | (cases u <;> first
        |exact wpAny_pure hQ
        | (refine wpAny_bind (wpAny_load ho ?_)
           rw[hc, hd];show wpAny M A (if (["enumerate", "zip", "dict_itemiterator", "dict_reverseitemiterator", "odict_iterator", "itertools.zip_longest", "itertools.pairwise"].contains n && vs[0]? == some (rawInt _)) = true then _ else _) Q E s;rw[if_neg (by intro h; rw[hn, Bool.false_and]at h; cases h)];exact wpAny_pure hQ))

noncomputable def Itl(K:W.Frag)(a:Addr):It:=
 ⟨λi H=>∃xs x,SqL K H a xs/\xs[i]?=some x,λi H x H'=>H'=H/\∀xs,SqL K H a xs->xs[i]?=some x,λi H=>∃xs,SqL K H a xs/\xs.length<=i⟩
noncomputable def Itt(K:W.Frag)(a:Addr):It:=
 ⟨λi H=>∃xs x,SqT K H a xs/\xs[i]?=some x,λi H x H'=>H'=H/\∀xs,SqT K H a xs->xs[i]?=some x,λi H=>∃xs,SqT K H a xs/\xs.length<=i⟩
noncomputable def Itr(lo:Int)(n:Nat):It:=⟨λi _=>i<n,λi H x H'=>H'=H/\x=.int (lo+i),λi _=>n<=i⟩
def zP{w:World}{K:W.Frag}{tg:Expr}(a it:Addr):Turn P w K tg (Itl K a) [it] it (λi h=>h.IsListIter it a i) where
 mem:=by simp
 obj:=λi h st b hb=>by
  have e:b=it:=by simpa using hb
  subst e;obtain⟨o,e,c,d⟩:=st;exact⟨o,e,λv z=>by rw[d]at z;cases z⟩
 keep:=λi h h' st k=>st.at λo e=>k it (by simp) o e
 item:=by intro X hP hw hK hc i pins s σ H E I hf st hg;subst hP hw hK;obtain⟨xs,x,hq,hx⟩:=hg;obtain⟨its,rv,p,hz⟩:=I.list hq;obtain⟨u,hu,ru⟩:=rv.get hx;obtain⟨f0,f1,f2,f3,f4,f5⟩:=hf it (by simp);refine wpAny_pyNext_list_item st p.isList (by simpa using hu) λh' st' sb=>?_;have I1:Inv X pins σ H { s with heap:=h' }:=I.turned (λb o hb e=>(sb.2 b hb).trans e) f0 f1 f3 f4 f5;obtain⟨o,e,c,d⟩:=id st';exact⟨u,rfl,yq e c d (by decide) ⟨x,H,I1,ru,⟨rfl,λys hy=>by rw[I.list_inj hy hq];exact hx⟩,st',λb hb=>(hf b hb).1⟩⟩
 done:=by intro X hP hw hK hc i pins s σ H E I hf st hg;subst hP hw hK;obtain⟨xs,hq,hx⟩:=hg;obtain⟨its,rv,p,hz⟩:=I.list hq;obtain⟨f0,f1,f2,f3,f4,f5⟩:=hf it (by simp);have hl:=rv.length;exact wpAny_pyNext_list_end (I.ok.hd hc) st p.isList (by simp;omega) λh' eb=>⟨rfl,I.turned (λb o hb e=>eb b o hb e) f0 f1 f3 f4 f5⟩
 self:=λ_ _ _ _ _ st h=>wpAny_pyIter_listiter st h
def xv{w:World}{K:W.Frag}{tg:Expr}(a it:Addr):Turn P w K tg (Itt K a) [it] it (λi h=>h.IsTupleIter it a i) where
 mem:=by simp
 obj:=λi h st b hb=>by
  have e:b=it:=by simpa using hb
  subst e;obtain⟨o,e,c,d⟩:=st;exact⟨o,e,λv z=>by rw[d]at z;cases z⟩
 keep:=λi h h' st k=>st.at λo e=>k it (by simp) o e
 item:=by intro X hP hw hK hc i pins s σ H E I hf st hg;subst hP hw hK;obtain⟨xs,x,hq,hx⟩:=hg;obtain⟨its,rv,p,hz⟩:=I.tuple hq;obtain⟨u,hu,ru⟩:=rv.get hx;obtain⟨f0,f1,f2,f3,f4,f5⟩:=hf it (by simp);refine wpAny_pyNext_tuple_item st (show s.heap.IsTuple a its.toArray from p) (by simpa using hu) λh' st' sb=>?_;have I1:Inv X pins σ H { s with heap:=h' }:=I.turned (λb o hb e=>(sb.2 b hb).trans e) f0 f1 f3 f4 f5;obtain⟨o,e,c,d⟩:=id st';exact⟨u,rfl,yq e c d (by decide) ⟨x,H,I1,ru,⟨rfl,λys hy=>by rw[I.tuple_inj hy hq];exact hx⟩,st',λb hb=>(hf b hb).1⟩⟩
 done:=by intro X hP hw hK hc i pins s σ H E I hf st hg;subst hP hw hK;obtain⟨xs,hq,hx⟩:=hg;obtain⟨its,rv,p,hz⟩:=I.tuple hq;obtain⟨f0,f1,f2,f3,f4,f5⟩:=hf it (by simp);have hl:=rv.length;exact wpAny_pyNext_tuple_end (I.ok.hd hc) st (show s.heap.IsTuple a its.toArray from p) (by simp;omega) λh' eb=>⟨rfl,I.turned (λb o hb e=>eb b o hb e) f0 f1 f3 f4 f5⟩
 self:=λ_ _ _ _ _ st h=>wpAny_pyIter_tupleiter st h
def xj{w:World}{K:W.Frag}{tg:Expr}(it:Addr)(lo:Int)(n:Nat):Turn P w K tg (Itr lo n) [it] it (λi h=>IsRangeIter h it (lo+(i:Nat) * 1) ((n:Int) - (i:Nat)) 1) where
 mem:=by simp
 obj:=λi h st b hb=>by
  have e:b=it:=by simpa using hb
  subst e;exact⟨_,st,λv z=>by have z':=z;cases z'⟩
 keep:=λi h h' st k=>k it (by simp) _ st
 item:=by intro X hP hw hK hc i pins s σ H E I hf st hg;subst hP hw hK;obtain⟨f0,f1,f2,f3,f4,f5⟩:=hf it (by simp);have W:=Walks.range (prog:=X.prog) (w:=X.w) (I.ok.hd hc) it lo 1 n;refine W.item i s _ _ hg st λv h' tk hv st' kk=>?_;obtain⟨t,rfl⟩:=hv;have I1:Inv X pins σ H { s with heap:=h',toks:=tk }:=I.turned (λb o hb e=>kk b o (by simpa using hb) e) f0 f1 f3 f4 f5;refine⟨_,rfl,yq st' rfl rfl (by decide) ⟨.int (lo+i),H,I1,⟨t,?_⟩,⟨rfl,rfl⟩,st',λb hb=>(hf b hb).1⟩⟩;rw[Int.mul_one]
 done:=by intro X hP hw hK hc i pins s σ H E I hf st hg;obtain⟨f0,f1,f2,f3,f4,f5⟩:=hf it (by simp);exact wpAny_pyNext_range_end (I.ok.hd hc) st (by have:n<=i:=hg;omega) λh' eb=>⟨rfl,I.turned (λb o hb e=>eb b o hb e) f0 f1 f3 f4 f5⟩
 self:=λ_ _ _ _ _ st h=>wpAny_pyIter_rangeiter st h
section
variable{tg:Expr}
def wM{R:It->Hp->Prop}{lo hi:Int}{t u v:Tok}{tk:Nat}(I:Inv X pins σ H s)(h1 : -(2 ^ 62)<=lo)(h2:lo<2 ^ 62)(h3 : -(2 ^ 62)<=hi)(h4:hi<2 ^ 62)(q:R (Itr lo (hi - lo).toNat) H):wpAny (model X.prog X.w) X.A (pyIter (.ref s.heap.objs.size)) (PIE X pins σ tg R) E { s with heap:=s.heap.push { cls:=.type "range",data:=.fields #[.int lo t,.int hi u,.int 1 v] },toks:=tk }:=by
 refine wpAny_pyIter_range (IsRange.new ..) (small_one h1 h2 h3 h4) ?_;have I1:Inv X pins σ H { s with heap:=s.heap.push { cls:=.type "range",data:=.fields #[.int lo t,.int hi u,.int 1 v] },toks:=tk }:=I.kept λb o e=>Heap.get?_push_of_some _ e;refine⟨(s.heap.push { cls:=.type "range",data:=.fields #[.int lo t,.int hi u,.int 1 v] }).objs.size,[(s.heap.push { cls:=.type "range",data:=.fields #[.int lo t,.int hi u,.int 1 v] }).objs.size],_,_,H,rfl,
  I1.kept λb o e=>Heap.get?_push_of_some _ e,xj _ lo (hi - lo).toNat,?_,λb hb=>?_,q⟩
 ·have e1:lo+((0:Nat):Int) * 1=lo:=by simp
  have e2:(((hi - lo).toNat:Nat):Int) - ((0:Nat):Int)=Builtin.Range.rangeSize lo hi 1:=by rw[rangeSize_one];split <;> omega
  rw[e1,e2];exact Heap.get?_push_size _ rfl
 ·have e:b=(s.heap.push { cls:=.type "range",data:=.fields #[.int lo t,.int hi u,.int 1 v] }).objs.size:=by simpa using hb
  subst e;exact I1.fpOk (Nat.le_refl _) (I1.hok.fresh (Nat.le_refl _))
noncomputable def MN(ta:TA):TI:=λσ H R=>ta σ H λvs H1=>∃j:Int,vs=[.int j]/\-(2 ^ 62)<=j/\j<2 ^ 62/\R (Itr 0 j.toNat) H1
noncomputable def LK(ta:TA):TI:=λσ H R=>ta σ H λvs H1=>∃i j:Int,vs=[.int i,.int j]/\(-(2 ^ 62)<=i/\i<2 ^ 62/\-(2 ^ 62)<=j/\j<2 ^ 62)/\R (Itr i (j - i).toNat) H1
def yQ{a:Expr}{p:Pos}(hg:Gl X "range")(hm:X.mg "range"=none)(ha:PA X [a] ta)(hs:starEach [a] X.env=[(false,eval a X.env)]:=by rfl):PI X tg (.Call (.Name "range" p) [a] [] pos) (MN ta):=by
 intro pins s σ H R I h;refine Call_ (mK I hg hm boot_range (callWith_type1 (thn (ha pos pins s σ H _ I h) λus s1 ⟨vs,H1,I1,r1,q1⟩=>?_) hs rfl));obtain⟨j,e,q1,q2,q⟩:=q1;subst e;cases r1 with
 |cons r rr=>cases rr;obtain⟨t,rfl⟩:=r;exact call_range_1 (wM I1 (by omega) (by omega) q1 q2 (by simpa using q))
def A2{a b:Expr}{p:Pos}(hg:Gl X "range")(hm:X.mg "range"=none)(ha:PA X [a,b] ta)(hs:starEach [a,b] X.env=[(false,eval a X.env),(false,eval b X.env)]:=by rfl)(hs2:starEach [b] X.env=[(false,eval b X.env)]:=by rfl):
  PI X tg (.Call (.Name "range" p) [a,b] [] pos) (LK ta):=by
 intro pins s σ H R I h;refine Call_ (mK I hg hm boot_range (callWith_type1 (thn (ha pos pins s σ H _ I h) λus s1 ⟨vs,H1,I1,r1,q1⟩=>?_) (by rw[hs,hs2]) (by rw[hs2];rfl)));obtain⟨i,j,e,⟨q1,q2,q3,q4⟩,q⟩:=q1;subst e;cases r1 with
 |cons r rr=>
  cases rr with
  |cons r' rr=>cases rr;obtain⟨t,rfl⟩:=r;obtain⟨t',rfl⟩:=r';exact call_range_2 (wM I1 q1 q2 q3 q4 q)
noncomputable def Oj(wi:TI)(g:TG)(tb:TS):TS:=λD σ H=>wi σ H λJ H1=>∃W:Nat->Nat->St->Hp->Prop,(∃m,W 0 m σ H1)/\∀i m σ H,W i m σ H->
 (J.stop i H/\D.nx σ H)\/(J.go i H/\∃N:St->Hp->Prop,(∀σ' H',N σ' H'->∃m',m'<m/\W (i+1) m' σ' H')/\∀x H',J.yld i H x H'->g x σ H' λσ2 H2=>tb { D with nx:=N,ct:=N,bk:=D.nx } σ2 H2)
noncomputable def se(fp:List Addr)(h:Heap):List (Addr×Obj):=fp.filterMap λb=>(h.get? b).map λo=>(b,o)
def kT{o:Obj}(hb:b∈fp)(e:h.get? b=some o):(b,o)∈se fp h:=List.mem_filterMap.mpr ⟨b,hb,by rw[e];rfl⟩
def zo{p:Addr×Obj}(hp:p∈se fp h):p.1∈fp/\h.get? p.1=some p.2:=by
 obtain⟨b,hb,e⟩:=List.mem_filterMap.mp hp;cases q:h.get? b with
 |none=>rw[q]at e;cases e
 |some o=>rw[q]at e;have e':=Option.some.inj e;subst e';exact⟨hb,q⟩
def Inv.pinned(I:Inv X pins σ H s)(hf:∀b∈fp,oS X pins H b)(ho:∀b∈fp,∃o,s.heap.get? b=some o/\∀v,o.data≠.cell v):Inv X (pins++se fp s.heap) σ H s:=
 I.pins_of λp hp=>(List.mem_append.mp hp).elim (λz=>I.pin p (List.mem_append_right _ z)) λz=>by obtain⟨hb,e⟩:=zo z;obtain⟨f0,f1,f2,_⟩:=hf p.1 hb;obtain⟨o,e',d⟩:=ho p.1 hb;rw[e]at e';cases e';exact⟨e,f0,f1,f2,d⟩
def Inv.unpinned{pl:List (Addr×Obj)}(I:Inv X (pins++pl) σ H s):Inv X pins σ H s:=I.pins_of λp hp=>I.pin p (List.mem_append_right _ (List.mem_append_left _ hp))
def D2{body:List Stmt}{wi:TI}{g:TG}{tb:TS}(hp:PassesOwn (model X.prog X.w) X.A X.env X.xe)(hc:X.calm=true)(hi:PI X tg iter wi)(hg:PG X tg g)(hb:PSs X body tb)(hs:∀x,foldedSetIterable iter X.env x=pure x:=by intro _;rfl):PS X (.For tg iter body [] pos) (Oj wi g tb):=by
 intro pins s σ H D I h;refine wpAny_For (thn (hi pins s σ H _ I h) λv s1 h1=>thn h1 λitv s2 h2=>?_) hs;obtain⟨it,fp,tn,J,H2,e,I2,T,st2,f2,W,⟨m0,w0⟩,turn⟩:=h2;subst e;have stat:∀{H':Hp},(∀b∈fp,H' b=none)->∀b∈fp,oS X pins H' b:=λhn b hb=>⟨hn b hb,(f2 b hb).2⟩
 refine codeAny_forLoop_any (λn s'=>∃i σ' H',Inv X pins σ' H' s'/\tn i s'.heap/\(∀b∈fp,H' b=none)/\W i n σ' H') ?_ m0 ⟨0,σ,H2,I2,st2,λb hb=>(f2 b hb).1,w0⟩;rintro n s3 ⟨i,σ3,H3,I3,st3,fr3,w3⟩;rcases turn i n σ3 H3 w3 with⟨stop,qn⟩|⟨go,N,hN,step⟩
 ·refine wpAny_passesOwn hp (thn (T.done X rfl rfl rfl hc i pins s3 σ3 H3 X.xe I3 (stat fr3) st3 stop) λr s4 ⟨hr,I4⟩=>?_);subst hr;exact wpAny_execs_nil ⟨σ3,H3,I4,qn⟩
 ·refine wpAny_passesOwn hp (thn (T.item X rfl rfl rfl hc i pins s3 σ3 H3 X.xe I3 (stat fr3) st3 go) λr s4 ⟨u,hr,h4⟩=>?_);subst hr;refine wpAny_passesOwn hp (thn h4 λ_ s5 ⟨x,H5,I5,r5,y5,st5,fr5⟩=>?_);have I5':=I5.pinned (stat fr5) (T.obj _ _ st5);refine wpAny_passesOwn hp (thn (hg _ s5 σ3 H5 x u _ I5' r5 (step x H5 y5)) λ_ s6 ⟨σ6,H6,I6,q6⟩=>?_);refine wpAny_passesOwn hp (thn (hb _ s6 σ6 H6 _ I6 q6) λf s7 q7=>?_);have again:∀{σ7:St}{H7:Hp},Inv X (pins++se fp s5.heap) σ7 H7 s7->N σ7 H7->∃m,m<n/\∃i σ' H',Inv X pins σ' H' s7/\tn i s7.heap/\(∀b∈fp,H' b=none)/\W i m σ' H':=λ{σ7 H7} I7 n7=>by obtain⟨m',hm,w7⟩:=hN σ7 H7 n7;refine⟨m',hm,i+1,σ7,H7,I7.unpinned,T.keep _ _ _ st5 λb hb o e=>(I7.pin (b,o) (List.mem_append_right _ (List.mem_append_right _ (kT hb e)))).1,λb hb=>?_,w7⟩;obtain⟨o,e,d⟩:=T.obj _ _ st5 b hb;exact(I7.pin (b,o) (List.mem_append_right _ (List.mem_append_right _ (kT hb e)))).2.1
  cases f with
  |next=>obtain⟨σ7,H7,I7,n7⟩:=q7;exact again I7 n7
  |cont=>obtain⟨σ7,H7,I7,n7⟩:=q7;exact again I7 n7
  |brk=>obtain⟨σ7,H7,I7,q7⟩:=q7;exact⟨σ7,H7,I7.unpinned,q7⟩
  |ret v=>obtain⟨x7,σ7,H7,I7,r7,q7⟩:=q7;exact⟨x7,σ7,H7,I7.unpinned,r7,q7⟩
end
noncomputable abbrev R2:=V->V->Hp->VK->Prop
noncomputable def OpR(X:Cx)(f:Value->Value->Sem Value)(r:R2):Prop:=
 ∀(pins:List (Addr×Obj))(s:Shared)(σ:St)(H:Hp)(x y:V)(v u:Value)(Q:VK),Inv X pins σ H s->RelV x v->RelV y u->r x y H Q->
  wpAny (model X.prog X.w) X.A (f v u) (EP X pins σ Q) X.xe s
noncomputable def UnR(X:Cx)(f:Value->Sem Value)(r:V->Hp->VK->Prop):Prop:=
 ∀(pins:List (Addr×Obj))(s:Shared)(σ:St)(H:Hp)(x:V)(v:Value)(Q:VK),Inv X pins σ H s->RelV x v->r x H Q->
  wpAny (model X.prog X.w) X.A (f v) (EP X pins σ Q) X.xe s
noncomputable def lS(X:Cx)(f:Value)(r:List V->Hp->VK->Prop):Prop:=
 ∀(pins:List (Addr×Obj))(s:Shared)(σ:St)(H:Hp)(xs:List V)(us:List Value)(Q:VK),Inv X pins σ H s->Vals xs us->r xs H Q->
  wpAny (model X.prog X.w) X.A (call f us) (EP X pins σ Q) X.xe s
noncomputable def Nz(X:Cx)(r:V->Hp->(Bool->Hp->Prop)->Prop):Prop:=
 ∀(pins:List (Addr×Obj))(s:Shared)(σ:St)(H:Hp)(x:V)(v:Value)(Q:Bool->Hp->Prop),Inv X pins σ H s->RelV x v->r x H Q->
  wpAny (model X.prog X.w) X.A (truthy v) (TP X pins σ Q) X.xe s
noncomputable def tOp(r:R2)(ta tb:TE):TE:=λσ H Q=>ta σ H λx H1=>tb σ H1 λy H2=>r x y H2 Q
noncomputable def tUn(r:V->Hp->VK->Prop)(ta:TE):TE:=λσ H Q=>ta σ H λx H1=>r x H1 Q
noncomputable def rI(C:Int->Int->Prop)(g:Int->Int->V):R2:=λx y H Q=>∃i j,x=.int i/\y=.int j/\C i j/\Q (g i j) H
noncomputable def rI0(g:Int->Int->V):R2:=λx y H Q=>∃i j,x=.int i/\y=.int j/\Q (g i j) H
noncomputable def rU(g:Int->V):V->Hp->VK->Prop:=λx H Q=>∃i,x=.int i/\Q (g i) H
section
variable{a b c:Expr}{ta tb tc:TE}
def Lu(ha:PE X a ta)(hb:PE X b tb){R:V->V->Hp->Prop}(I:Inv X pins σ H s)(h:ta σ H λx H1=>tb σ H1 λy H2=>R x y H2){Q:Value->Shared->Prop}{f:Value->Value->Sem Value}(hf:∀v u s2 x y H2,Inv X pins σ H2 s2->RelV x v->RelV y u->R x y H2->wpAny (model X.prog X.w) X.A (f v u) Q X.xe s2):
  wpAny (model X.prog X.w) X.A (eval a X.env) (λv s₁=>wpAny (model X.prog X.w) X.A (eval b X.env) (λu s₂=>wpAny (model X.prog X.w) X.A (f v u) Q X.xe s₂) X.xe s₁) X.xe s:=by
 refine thn (ha pins s σ H _ I h) λv s1 ⟨x,H1,I1,r1,q1⟩=>?_;refine thn (hb pins s1 σ H1 _ I1 q1) λu s2 ⟨y,H2,I2,r2,q2⟩=>?_;exact hf v u s2 x y H2 I2 r1 r2 q2
def K3{op:Operator}{r:R2}(ho:OpR X (binaryOp op) r)(ha:PE X a ta)(hb:PE X b tb):PE X (.BinOp a op b pos) (tOp r ta tb):=by intro pins s σ H Q I h;exact wpAny_BinOp (Lu ha hb I h λv u s2 x y H2 I2 rx ry q=>ho pins s2 σ H2 x y v u Q I2 rx ry q)
def MB{op:UnaryOp}{r:V->Hp->VK->Prop}(ho:UnR X (unaryOp op) r)(ha:PE X a ta):PE X (.UnaryOp op a pos) (tUn r ta):=by intro pins s σ H Q I h;exact UnaryOp_ (thn (ha pins s σ H _ I h) λv s1 ⟨x,H1,I1,r1,q1⟩=>ho pins s1 σ H1 x v Q I1 r1 q1)
def opI{f:Value->Value->Sem Value}{C:Int->Int->Prop}{g:Int->Int->Int}(rule:∀(i j:Int)(t u:Tok)(s:Shared)(Q:Value->Shared->Prop)(E:Value->Shared->Prop),C i j->Q (.int (g i j) s.toks) { s with toks:=s.toks+1 }->wpAny (model X.prog X.w) X.A (f (.int i t) (.int j u)) Q E s):
  OpR X f (rI C λi j=>.int (g i j)):=by
 intro pins s σ H x y v u Q I rx ry h;obtain⟨i,j,rfl,rfl,hc,q⟩:=h;obtain⟨t,rfl⟩:=rx;obtain⟨t',rfl⟩:=ry;exact rule i j t t' s _ _ hc ⟨.int (g i j),H,I.tok _,⟨_,rfl⟩,q⟩
def Nf{f:Value->Value->Sem Value}{g:Int->Int->Int}(rule:∀(i j:Int)(t u:Tok)(s:Shared)(Q:Value->Shared->Prop)(E:Value->Shared->Prop),Q (.int (g i j) s.toks) { s with toks:=s.toks+1 }->wpAny (model X.prog X.w) X.A (f (.int i t) (.int j u)) Q E s):
  OpR X f (rI0 λi j=>.int (g i j)):=by
 intro pins s σ H x y v u Q I rx ry h;obtain⟨i,j,rfl,rfl,q⟩:=h;obtain⟨t,rfl⟩:=rx;obtain⟨t',rfl⟩:=ry;exact rule i j t t' s _ _ ⟨.int (g i j),H,I.tok _,⟨_,rfl⟩,q⟩
def KG{f:Value->Value->Sem Value}{g:Int->Int->Bool}(rule:∀(i j:Int)(t u:Tok)(s:Shared)(Q:Value->Shared->Prop)(E:Value->Shared->Prop),Q (.bool (g i j)) s->wpAny (model X.prog X.w) X.A (f (.int i t) (.int j u)) Q E s):
  OpR X f (rI0 λi j=>.bl (g i j)):=by
 intro pins s σ H x y v u Q I rx ry h;obtain⟨i,j,rfl,rfl,q⟩:=h;obtain⟨t,rfl⟩:=rx;obtain⟨t',rfl⟩:=ry;exact rule i j t t' s _ _ ⟨.bl (g i j),H,I,rfl,q⟩
noncomputable def Nn(i j:Int):Prop:=0<j/\j<1073741824
noncomputable def CMul(i j:Int):Prop:=(-(2 ^ 64)<i/\i<2 ^ 64)\/(-(2 ^ 64)<j/\j<2 ^ 64)
def CMul.ok{i j:Int}(h:CMul i j):IntMulOk i j:=by
 rcases h with⟨h1,h2⟩|⟨h1,h2⟩;·exact .of_left (intBits_le_64 h1 h2)
 ·exact .of_right (intBits_le_64 h1 h2)
def op_add:OpR X (binaryOp .Add) (rI0 λi j=>.int (i+j)):=Nf λ_ _ _ _ _ _ _ q=>add_int q
def Hk:OpR X (binaryOp .Sub) (rI0 λi j=>.int (i - j)):=Nf λ_ _ _ _ _ _ _ q=>sub_int q
def op_mul:OpR X (binaryOp .Mult) (rI CMul λi j=>.int (i * j)):=opI λ_ _ _ _ _ _ _ hc q=>mul_int q hc.ok
def FN:OpR X (binaryOp .FloorDiv) (rI Nn λi j=>.int (i / j)):=opI λi j _ _ _ _ _ hc q=>by have h1:=hc.1;have h2:=hc.2;exact floordiv_int (by omega) (by rw[Int.fdiv_eq_ediv_of_nonneg i (by omega)];exact q) (.inl (PyProof.noPylong_small (by omega)))
def JK:OpR X (binaryOp .Mod) (rI (λ_ j=>0<j) λi j=>.int (i % j)):=opI λi j _ _ _ _ _ hc q=>by exact mod_int' (by omega) (by rw[Int.fmod_eq_emod_of_nonneg i (by omega)];exact q)
def unI{f:Value->Sem Value}{g:Int->Int}(rule:∀(i:Int)(t:Tok)(s:Shared)(Q:Value->Shared->Prop)(E:Value->Shared->Prop),Q (.int (g i) s.toks) { s with toks:=s.toks+1 }->wpAny (model X.prog X.w) X.A (f (.int i t)) Q E s):
  UnR X f (rU λi=>.int (g i)):=by
 intro pins s σ H x v Q I rx h;obtain⟨i,rfl,q⟩:=h;obtain⟨t,rfl⟩:=rx;exact rule i t s _ _ ⟨.int (g i),H,I.tok _,⟨_,rfl⟩,q⟩
def IL:UnR X (unaryOp .USub) (rU λi=>.int (-i)):=unI λ_ _ _ _ _ q=>neg_int q
end
section
variable{a b c:Expr}{ta tb tc:TE}
def zS{Q:VK}{k k':Bool}(I:Inv X pins σ H s)(q:Q (.bl k) H)(e:k=k'):EP X pins σ Q (.bool k') s:=by subst e;exact⟨.bl k,H,I,rfl,q⟩
def op_lt:OpR X (compareOp .Lt) (rI0 λi j=>.bl (decide (i<j))):=KG λ_ _ _ _ _ _ _ q=>lt_int q
def op_le:OpR X (compareOp .LtE) (rI0 λi j=>.bl (decide (i<=j))):=KG λ_ _ _ _ _ _ _ q=>le_int q
def L7:OpR X (compareOp .Gt) (rI0 λi j=>.bl (decide (j<i))):=KG λ_ _ _ _ _ _ _ q=>gt_int q
def Fo:OpR X (compareOp .GtE) (rI0 λi j=>.bl (decide (j<=i))):=KG λ_ _ _ _ _ _ _ q=>ge_int q
def zc:OpR X (compareOp .Lt) (λx y H Q=>∃i j,x=.str i/\y=.str j/\Q (.bl (decide (i.cps.toList<j.cps.toList))) H):=by intro pins s σ H x y v u Q I rx ry h;obtain⟨i,j,rfl,rfl,q⟩:=h;obtain⟨t,rfl⟩:=rx;obtain⟨t',rfl⟩:=ry;exact lt_str (zS I q rfl)
def op_isN:OpR X (compareOp .Is) (λx y H Q=>y=.non/\Q (.bl (decide (x=.non))) H):=by
 intro pins s σ H x y v u Q I rx ry h;obtain⟨rfl,q⟩:=h;cases ry;refine is_none_gen (zS I q ?_);cases x <;> first
  | (cases rx;rfl)
  | (obtain⟨t,rfl⟩:=rx;rfl)
def OpR.or{f:Value->Value->Sem Value}{r r':R2}(h:OpR X f r)(h':OpR X f r'):OpR X f (λx y H Q=>r x y H Q\/r' x y H Q):=by
 intro pins s σ H x y v u Q I rx ry q;rcases q with q|q;·exact h pins s σ H x y v u Q I rx ry q
 ·exact h' pins s σ H x y v u Q I rx ry q
def jh(b:Expr){op:CmpOp}(h:op≠.In:=by decide)(h2:op≠.NotIn:=by decide):behindInMarks op b=false:=by
 have e1:(op==CmpOp.In)=false:=by cases op <;> first|rfl|exact absurd rfl h
 have e2:(op==CmpOp.NotIn)=false:=by cases op <;> first|rfl|exact absurd rfl h2
 cases b <;> simp[behindInMarks,e1,e2]
def ED{op:CmpOp}{r:R2}(ho:OpR X (compareOp op) r)(ha:PE X a ta)(hb:PE X b tb)(hm:behindInMarks op b=false):PE X (.Compare a [op] [b] pos) (tOp r ta tb):=by intro pins s σ H Q I h;exact wpAny_Compare1 (Lu ha hb I h λv u s2 x y H2 I2 rx ry q=>ho pins s2 σ H2 x y v u Q I2 rx ry q) hm
noncomputable def FO(t:TE):TT:=λσ H Q=>t σ H λx H'=>∃k,x=.bl k/\Q k H'
def qb{op:CmpOp}{r:R2}(ho:OpR X (compareOp op) r)(ha:PE X a ta)(hb:PE X b tb)(hm:behindInMarks op b=false):PT X (.Compare a [op] [b] pos) (FO (tOp r ta tb)):=by intro pins s σ H Q I h;refine wpAny_isTrue_Compare1 (thn (ha pins s σ H _ I h) λv s1 ⟨x,H1,I1,r1,q1⟩=>thn (hb pins s1 σ H1 _ I1 q1) λu s2 ⟨y,H2,I2,r2,q2⟩=>thn (ho pins s2 σ H2 x y v u _ I2 r1 r2 q2) λc s3 ⟨z,H3,I3,r3,k,e,q3⟩=>?_) hm;subst e;cases r3;exact wpAny_truthy_bool ⟨H3,I3,q3⟩
noncomputable def El(r r':R2)(ta tb tc:TE):TE:=λσ H Q=>ta σ H λx H1=>tb σ H1 λy H2=>r x y H2 λz H3=>∃k,z=.bl k/\
 (if k=true then tc σ H3 λw' H4=>r' y w' H4 Q else Q (.bl false) H3)
def CH{op op':CmpOp}{r r':R2}(ho:OpR X (compareOp op) r)(ho':OpR X (compareOp op') r')(ha:PE X a ta)(hb:PE X b tb)(hc:PE X c tc)(hm:lastMarks [op,op'] [b,c]=false:=by with_unfolding_all rfl):PE X (.Compare a [op,op'] [b,c] pos) (El r r' ta tb tc):=by
 intro pins s σ H Q I h;refine Compare_chain (thn (ha pins s σ H _ I h) λv s1 ⟨x,H1,I1,r1,q1⟩=>chain_link (thn (hb pins s1 σ H1 _ I1 q1) λu s2 ⟨y,H2,I2,r2,q2⟩=>thn (ho pins s2 σ H2 x y v u _ I2 r1 r2 q2) λd s3 ⟨z,H3,I3,r3,k,e,q3⟩=>?_)) hm;subst e;cases r3;refine wpAny_truthy_bool ?_;cases k with
 |false=>exact ite_ff ⟨.bl false,H3,I3,rfl,q3⟩
 |true=>exact ite_tt (chain_last (thn (hc pins s3 σ H3 _ I3 q3) λw' s4 ⟨z',H4,I4,r4,q4⟩=>ho' pins s4 σ H4 y z' u w' Q I4 r2 r4 q4))
def C7{op op':CmpOp}{r r':R2}(ho:OpR X (compareOp op) r)(ho':OpR X (compareOp op') r')(ha:PE X a ta)(hb:PE X b tb)(hc:PE X c tc)(hm:lastMarks [op,op'] [b,c]=false:=by with_unfolding_all rfl):PT X (.Compare a [op,op'] [b,c] pos) (FO (El r r' ta tb tc)):=by
 intro pins s σ H Q I h;refine isTrue_chain (thn (ha pins s σ H _ I h) λv s1 ⟨x,H1,I1,r1,q1⟩=>test_link (thn (hb pins s1 σ H1 _ I1 q1) λu s2 ⟨y,H2,I2,r2,q2⟩=>thn (ho pins s2 σ H2 x y v u _ I2 r1 r2 q2) λd s3 ⟨z,H3,I3,r3,k,e,q3⟩=>?_)) hm;subst e;cases r3;refine wpAny_truthy_bool ?_;cases k with
 |false=>obtain⟨k',e',q'⟩:=q3;cases e';exact ite_ff ⟨H3,I3,q'⟩
 |true=>refine ite_tt (test_last (thn (hc pins s3 σ H3 _ I3 q3) λw' s4 ⟨z',H4,I4,r4,q4⟩=>thn (ho' pins s4 σ H4 y z' u w' _ I4 r2 r4 q4) λd' s5 ⟨z2,H5,I5,r5,k2,e2,q5⟩=>?_));subst e2;cases r5;exact wpAny_truthy_bool ⟨H5,I5,q5⟩
noncomputable def M4(K:W.Frag)(x:V)(H:Hp)(k:Bool):Prop:=
 match x with
 |.non=>k=false
 |.bl b=>k=b
 |.int i=>k=(i != 0)
 |.str y=>y.length<=sizeLine/\k=((y.length:Int) != 0)
 |.byt y=>y.size<=sizeLine/\k=((y.size:Int) != 0)
 |.ref p=>(∃xs,SqL K H p xs/\k = !xs.isEmpty)\/(∃xs,SqT K H p xs/\k = !xs.isEmpty)\/∃kvs,H p=some (.dK kvs)/\k = !kvs.isEmpty
 |_=>False
def xW{κ:Type}{kvs:List (κ×V)}{vs:List (κ×Value)}(r:KV kvs vs):(!vs.isEmpty) = !kvs.isEmpty:=by cases r <;> rfl
def oF(r:Vals xs its):(!its.toArray.isEmpty) = !xs.isEmpty:=by cases r <;> simp
def sx:(sizeLine:Nat)<2 ^ 63:=by rw[sizeLine_eq];decide
def IY:Nz X (λx H Q=>∃k,M4 X.K x H k/\Q k H):=by
 intro pins s σ H x v Q I rx h;obtain⟨k,e,q⟩:=h;have hl:=sx;have hs:=sizeLine_eq;cases x with
 |non=>cases rx;have e':=e;subst e';exact truthy_none ⟨H,I,q⟩
 |bl b=>cases rx;have e':=e;subst e';exact wpAny_truthy_bool ⟨H,I,q⟩
 |int i=>obtain⟨t,rfl⟩:=rx;have e':=e;subst e';exact PySem.P.truthy_int ⟨H,I,q⟩
 |str y=>obtain⟨t,rfl⟩:=rx;obtain⟨hy,e'⟩:y.length<=sizeLine/\k=((y.length:Int) != 0):=e;subst e';exact PySem.P.truthy_str (by omega) ⟨H,I.tok _,q⟩
 |byt y=>obtain⟨t,rfl⟩:=rx;obtain⟨hy,e'⟩:y.size<=sizeLine/\k=((y.size:Int) != 0):=e;subst e';exact W.truthy_bytes (by omega) ⟨H,I.tok _,q⟩
 |ref p=>
  cases rx;have e':=e;rcases e' with⟨xs,hx,e'⟩|⟨xs,hx,e'⟩|⟨kvs,hx,e'⟩
  ·subst e';obtain⟨its,r,pl,hz⟩:=I.list hx;have hlen:=r.length;exact wpAny_truthy_list pl.isList (by simp only[List.size_toArray];omega) ⟨H,I.tok _,by rw[oF r];exact q⟩
  ·subst e';obtain⟨its,r,pl,hz⟩:=I.tuple hx;have hlen:=r.length;exact truthy_tuple pl (by simp only[List.size_toArray];omega) ⟨H,I.tok _,by rw[oF r];exact q⟩
  ·subst e';obtain⟨hz,hS,vs,r,m⟩:kvs.length<=sizeLine/\(p==sysModules)=false/\∃vs,KV kvs vs/\s.heap.DictOf (tD X.prog X.w) p vs:=I.hok p _ hx;have hlen:=Paired.length r;exact wpAny_truthy_dict hS m (by omega) ⟨H,I.tok _,by rw[xW r];exact q⟩
 |_=>exact(show False from e).elim
def Bt(ha:PE X a ta)(he:∀whole,isTrue a X.env whole=(do let v <- whole;standAt a.pos;holding [v] (truthy v))):
  PT X a (λσ H Q=>ta σ H λx H'=>∃k,M4 X.K x H' k/\Q k H'):=by
 intro pins s σ H Q I h;exact isTrue_plain (thn (ha pins s σ H _ I h) λv s1 ⟨x,H1,I1,r1,q1⟩=>IY pins s1 σ H1 x v Q I1 r1 q1) (he _)
def op_add_str:OpR X (binaryOp .Add) (λx y H Q=>∃i j,x=.str i/\y=.str j/\i.length+j.length<=sizeLine/\Q (.str (i++j)) H):=by intro pins s σ H x y v u Q I rx ry h;obtain⟨i,j,rfl,rfl,hz,q⟩:=h;obtain⟨t,rfl⟩:=rx;obtain⟨t',rfl⟩:=ry;exact add_str (λt' tk=>⟨.str (i++j),H,I.tok _,⟨_,rfl⟩,q⟩) hz
def BM{x:V}(r:Vals [x] us):∃u,us=[u]/\RelV x u:=by
 cases r with
 |cons r1 r2=>cases r2;exact⟨_,rfl,r1⟩
noncomputable def Oe(K:W.Frag)(x:V)(H:Hp)(n:Nat):Prop:=
 match x with
 |.str y=>y.length<=sizeLine/\n=y.length
 |.byt y=>y.size<=sizeLine/\n=y.size
 |.ref p=>(∃xs,SqL K H p xs/\n=xs.length)\/∃xs,SqT K H p xs/\n=xs.length
 |_=>False
def De:lS X (.builtin "len") (λxs H Q=>∃x n,xs=[x]/\Oe X.K x H n/\Q (.int n) H):=by
 intro pins s σ H xs us Q I r h;obtain⟨x,n,rfl,e,q⟩:=h;obtain⟨u,rfl,rx⟩:=BM r;have hs:=sizeLine_eq;cases x with
 |str y=>obtain⟨t,rfl⟩:=rx;obtain⟨hy,e'⟩:y.length<=sizeLine/\n=y.length:=e;subst e';exact len_str (by omega) ⟨.int _,H,I.tok _,⟨_,rfl⟩,q⟩
 |byt y=>obtain⟨t,rfl⟩:=rx;obtain⟨hy,e'⟩:y.size<=sizeLine/\n=y.size:=e;subst e';exact W.len_bytes (by omega) ⟨.int _,H,I.tok _,⟨_,rfl⟩,q⟩
 |ref p=>
  cases rx;have e':=e;rcases e' with⟨xs,hx,e'⟩|⟨xs,hx,e'⟩
  ·subst e';obtain⟨its,r',pl,hz⟩:=I.list hx;have hlen:=r'.length;exact Calls.call_len_list pl.isList (by simp only[List.size_toArray];omega) ⟨.int xs.length,H,I.tok _,⟨_,by simp only[List.size_toArray];rw[hlen]⟩,q⟩
  ·subst e';obtain⟨its,r',pl,hz⟩:=I.tuple hx;have hlen:=r'.length;exact len_tuple pl (by simp only[List.size_toArray];omega) ⟨.int xs.length,H,I.tok _,⟨_,by simp only[List.size_toArray];rw[hlen]⟩,q⟩
 |_=>exact(show False from e).elim
end
structure ObjM(h:Heap)(x dx C:Addr)(mA:Str->Option Value):Prop where
 obj:h.get? x=some (W.instObj C dx)
 ns:h.Ns1 dx mA
 ne:dx≠x
def zV{dx:Addr}(n:h.Ns1 dx mA):∃od,h.get? dx=some od/\∀name,W.lookIn name od=some (mA name):=by
 obtain⟨o,es,ep,ho,hd,hk,_,hm⟩:=n;refine⟨o,ho,λname=>?_⟩;have e:=hm name;unfold nsFind findBy at e;rw[<- Array.find?_toList]at e;unfold W.lookIn;rw[hd];dsimp only;split;·rename_i y q;rw[q]at e;exact congrArg some e
 ·rename_i q;rw[q]at e;have a:es.toList.any (·.refKey)=false:=by rw[List.any_eq_false];intro y hy;obtain⟨z,t,hkey⟩:=hk y (Array.mem_toList_iff.mp hy);simp[DictEntry.refKey,hkey]
  have a' : ¬ es.toList.any (·.refKey)=true:=by rw[a];exact Bool.false_ne_true
  rw[if_neg a'];exact congrArg some e
def ObjM.look{x dx:Addr}(I:ObjM h x dx C mA):∃od,W.InstAt h x (W.instObj C dx) C (some od)/\∀name,W.lookIn name od=some (mA name):=
 let⟨od,ho,hl⟩:=zV I.ns
 ⟨od,⟨I.obj,rfl,rfl,ho⟩,hl⟩
section
variable{prog:Program}{w:World}{A:Around}{K:W.Frag}{x dx:Addr}{name:Str}{v:Value}
def Gu{expr:Bool}{Q:Value->Shared->Prop}(X:K.In s.heap)(I:ObjM s.heap x dx C mA)(hg:W.plainGet K C name=true)(hh:W.hasDictIn K C=true)(ha:W.findIn K (.ref C) name=some none)(hv:mA name=some v)(hv':W.handedIn v=true)(h:Q v { s with toks:=s.toks+1 }):
  wpAny (model prog w) A (getAttr (.ref x) name expr) Q E s:=by
 obtain⟨od,J,hl⟩:=I.look;exact W.get_value X J (W.plainGet_of hg).1 (W.findObj_own hh ha rfl (by rw[hl,hv])) hv' h
def Bu{pl:Sem Bool}{Q:Value×List Value->Shared->Prop}(X:K.In s.heap)(I:ObjM s.heap x dx C mA)(hg:W.plainGet K C name=true)(hf:W.findIn K (.ref C) name=some (some (.ref f)))(ht:W.isFn K (.ref f)=true)(hv:mA name=none)(h:Q (.ref f,[.ref x]) s):
  wpAny (model prog w) A (getMethod (.ref x) name pl) Q E s:=by
 obtain⟨od,J,hl⟩:=I.look;exact W.method_fn X J (W.plainGet_of hg).1 (W.plainGet_of hg).2 hf (beq_iff_eq.mp ht) (by show(W.lookIn name od).map (·.isSome)=some false;rw[hl,hv];rfl) h
def Ga{ns:List Str}{Q:Unit->Shared->Prop}(X:K.In s.heap)(I:ObjM s.heap x dx C mA)(hs:W.findIn K (.ref C) "__setattr__"=some (some (.builtin "object.__setattr__")))(hp:W.plainOver K C=true)(ht:W.takerIn K C name=some none)(hh:W.hasDictIn K C=true)(hw:PySem.Within mA ns)(hsz:ns.length<=sizeLine)(h:∀h',ObjM h' x dx C (λy=>if y=name then some v else mA y)->Heap.SameBut dx s.heap h'->Q () { s with heap:=h',toks:=s.toks+2 }):
  wpAny (model prog w) A (setAttr (.ref x) name v) Q E s:=by
 obtain⟨od,J,hl⟩:=I.look;refine W.set_plain X J hs (W.osa_open X J hp ht λb=>?_);obtain⟨cd,hc,hd'⟩:=W.any_some hh;have hx:=I.obj;refine wpAny_bind (wpAny_pure (wpAny_bind (wpAny_bind (wpAny_loadPart hx (wpAny_bind (W.Looks.here (W.looks_clsIn X hc) ?_))))));rw[hd'];refine wpAny_pure (wpAny_bind (wpAny_pure (wpAny_bind ?_)));refine wpAny_nsSet1 I.ns λh' hn2 hs2=>?_;obtain⟨oD,esD,epD,hoD,hdD,hcD⟩:=hn2.count (PySem.Within.cons name v hw);refine wpAny_bind (wpAny_lookBehind hoD (by rw[hdD];exact pastItsLine_dict (Nat.le_trans hcD (by rw[List.length_cons];omega))) ?_);exact wpAny_pure (h _ ⟨(hs2.2 _ (Ne.symm I.ne)).trans I.obj,hn2,I.ne⟩ hs2)
def BW{R:Result->Shared->Prop}{vs:List Value}{kw:List (Str×Value)}(X:K.In s.heap)(hm:W.makesIn K C=true)(hi:W.findIn K (.ref C) "__init__"=some (some (.ref f)))(hf:W.typeIn K (.ref f)=some (.type "function"))(h:codeAny (model prog w) (A.under (.builtin "type.__call__" ⟨.ref C::vs,kw⟩)) (.call (.ref f) ⟨.ref (s.heap.objs.size+1)::vs,kw⟩) (W.InitBack (s.heap.objs.size+1) R)
 { s with heap:=(s.heap.push W.emptyDict).push (W.instObj C s.heap.objs.size) }):
  codeAny (model prog w) A (.call (.ref C) ⟨vs,kw⟩) R s:=by
 exact W.make_core (W.makes_of X hm) (W.looks_findIn X hi) (λself=>W.bind_fn X self hf) (.inl rfl) h
end
noncomputable def pT(f:Str)(v:V):List (Str×V)->List (Str×V)
 | []=>[(f,v)]
 | (g,x)::r=>if g=f then (g,v)::r else (g,x)::pT f v r
theorem ny(f g:Str)(v:V):∀fs:List (Str×V),(pT f v fs).lookup g=if g=f then some v else fs.lookup g
 | []=>by
  show List.lookup g [(f,v)]=_;by_cases h:g=f;·have hb:(g==f)=true:=beq_iff_eq.mpr h;simp only[List.lookup,hb,if_pos h]
  ·have hb:(g==f)=false:=beq_eq_false_iff_ne.mpr h;simp only[List.lookup,hb,if_neg h]
 | (k,x)::r=>by
  have ih:=ny f g v r;rw[show pT f v ((k,x)::r)=(if k=f then (k,v)::r else (k,x)::pT f v r) from rfl];by_cases hk:k=f
  ·rw[if_pos hk];by_cases h:g=k;·have hb:(g==k)=true:=beq_iff_eq.mpr h;simp only[List.lookup,hb,if_pos (h.trans hk)]
   ·have hb:=beq_eq_false_iff_ne.mpr h;simp only[List.lookup,hb,if_neg (λe:g=f=>h (e.trans hk.symm))]
  ·rw[if_neg hk];by_cases h:g=k;·have hb:=beq_iff_eq.mpr h;simp only[List.lookup,hb,if_neg (λe:g=f=>hk (h.symm.trans e))]
   ·have hb:=beq_eq_false_iff_ne.mpr h;simp only[List.lookup,hb];exact ih
theorem lW(f:Str)(v:V):∀fs:List (Str×V),f∈(pT f v fs).map (·.1)/\∀g,g∈fs.map (·.1)->g∈(pT f v fs).map (·.1)
 | []=>⟨by simp[pT],λg h=>by simp at h⟩
 | (k,x)::r=>by
  obtain⟨i1,i2⟩:=lW f v r;rw[show pT f v ((k,x)::r)=(if k=f then (k,v)::r else (k,x)::pT f v r) from rfl];by_cases hk:k=f;·subst hk;exact⟨by simp,λg h=>by simpa using h⟩
  ·rw[if_neg hk];refine⟨?_,λg h=>?_⟩;·exact List.mem_cons_of_mem _ i1
   ·rcases List.mem_cons.mp h with e|e;·exact List.mem_cons.mpr (.inl e)
    ·exact List.mem_cons_of_mem _ (i2 g e)
theorem mR(f:Str)(v:V):∀fs:List (Str×V),(pT f v fs).length<=fs.length+1
 | []=>by simp[pT]
 | (k,x)::r=>by
  have ih:=mR f v r;rw[show pT f v ((k,x)::r)=(if k=f then (k,v)::r else (k,x)::pT f v r) from rfl];by_cases hk:k=f;·rw[if_pos hk,List.length_cons,List.length_cons];omega
  ·rw[if_neg hk,List.length_cons,List.length_cons];omega
def RelO.some_of{o:Option Value}(r:RelO (some v) o):∃u,o=some u/\RelV v u:=by
 cases o with
 |none=>exact(show False from r).elim
 |some u=>exact⟨u,rfl,r⟩
def RelO.none_of{o:Option Value}(r:RelO none o):o=none:=by
 cases o with
 |none=>rfl
 |some u=>exact(show False from r).elim
def AN(r:RelV v u):W.handedIn u=true:=by
 cases v with
 |non=>cases (show u=Value.none from r);rfl
 |bl b=>cases (show u=Value.bool b from r);rfl
 |int i=>obtain⟨t,e⟩:=(show ∃t,u=Value.int i t from r);cases e;rfl
 |str x=>obtain⟨t,e⟩:=(show ∃t,u=Value.str x t from r);cases e;rfl
 |byt b=>obtain⟨t,e⟩:=(show ∃t,u=Value.bytes b t from r);cases e;rfl
 |flt b=>obtain⟨t,e⟩:=(show ∃t,u=Value.float b t from r);cases e;rfl
 |ref a=>cases (show u=Value.ref a from r);rfl
 |ty n=>cases (show u=Value.type n from r);rfl
section
variable{w:World}{dx:Addr}{fs fs':List (Str×V)}
def ua(hok:HOk P w H h)(e:H a=some (.ins C dx fs)):∃mA,ObjM h a dx C mA/\(∀f,RelO (fs.lookup f) (mA f))/\PySem.Within mA (fs.map (·.1))/\fs.length<=1000/\H dx=some (.own a):=by
 obtain⟨d,z,ne,ob,mA,n,r,q⟩:=(show ObjOk P w H h a (.ins C dx fs) from hok a _ e)
 exact⟨mA,⟨ob,n,ne⟩,r,q,z,d⟩
end
structure Cls(K:W.Frag)(C:Addr):Prop where
 pg:W.plainGet K C Str.empty=true
 hd:W.hasDictIn K C=true
 po:W.plainOver K C=true
 sa:W.findIn K (.ref C) "__setattr__"=some (some (.builtin "object.__setattr__"))
def Cls.get{K:W.Frag}(c:Cls K C)(f:Str):W.plainGet K C f=true:=c.pg
noncomputable def NoAttr(K:W.Frag)(C:Addr)(f:Str):Prop:=W.findIn K (.ref C) f=some none
def NoAttr.taker{K:W.Frag}{f:Str}(n:NoAttr K C f):W.takerIn K C f=some none:=by unfold W.takerIn;rw[show W.findIn K (.ref C) f=some none from n];rfl
structure Con(K:W.Frag)(C:Addr)(f:Str)(v:V)(u:Value):Prop where
 at_:W.findIn K (.ref C) f=some (some u)
 rel:RelV v u
 get:W.specialIn K u "__get__"=some none
 cp:W.copiedNames.contains f=false
structure Meth(K:W.Frag)(C:Addr)(m:Str)(f:Addr):Prop where
 at_:W.findIn K (.ref C) m=some (some (.ref f))
 fn:W.isFn K (.ref f)=true
 kp:W.keepIn K (.ref f)=true
section
variable{dx:Addr}{fs:List (Str×V)}{f:Str}{A:Around}
def xw{b:Bool}{Q:Value->Shared->Prop}(I:Inv X pins σ H s)(e:H a=some (.ins C dx fs))(c:Cls X.K C)(n:NoAttr X.K C f)(l:fs.lookup f=some v)(h:∀u s',Inv X pins σ H s'->RelV v u->Q u s'):wpAny (model X.prog X.w) A (getAttr (.ref a) f b) Q E s:=by
 obtain⟨mA,O,r,_,_,_⟩:=ua I.hok e;obtain⟨u,hu,ru⟩:=RelO.some_of (by rw[<- l];exact r f);exact Gu I.kIn O (c.get f) c.hd n hu (AN ru) (h u _ (I.tok _) ru)
def kn{m:Str}{g:Addr}{pl:Sem Bool}{Q:Value×List Value->Shared->Prop}(I:Inv X pins σ H s)(e:H a=some (.ins C dx fs))(c:Cls X.K C)(k:Meth X.K C m g)(l:fs.lookup m=none)(h:Q (.ref g,[.ref a]) s):wpAny (model X.prog X.w) A (getMethod (.ref a) m pl) Q E s:=by
 obtain⟨mA,O,r,_,_,_⟩:=ua I.hok e;have hn:=RelO.none_of (by rw[<- l];exact r m);exact Bu I.kIn O (c.get m) k.at_ k.fn hn h
def xq{y:V}{Q:Unit->Shared->Prop}(I:Inv X pins σ H s)(e:H a=some (.ins C dx fs))(c:Cls X.K C)(n:NoAttr X.K C f)(hl:fs.length<1000)(ry:RelV y u)(h:∀s',Inv X pins σ (upd H a (.ins C dx (pT f y fs))) s'->Q () s'):wpAny (model X.prog X.w) A (setAttr (.ref a) f u) Q E s:=by
 obtain⟨mA,O,r,wi,_,ho⟩:=ua I.hok e;have hz:(fs.map (·.1)).length<=sizeLine:=by rw[List.length_map,sizeLine_eq];omega
 refine Ga I.kIn O c.sa c.po n.taker c.hd wi hz λh' O' sb=>h _ ?_;have hd:∃o,h'.get? dx=some o:=let⟨o,_,_,e',_⟩:=O'.ns;⟨o,e'⟩;refine I.write (by rw[e];exact True.intro) (.inr ho) (λb q hb z=>(sb.2 b hb).trans z) hd ?_;refine⟨by rw[aw O.ne];exact ho,?_,O.ne,O'.obj,_,O'.ns,λg=>?_,λg hg=>?_⟩;·have:=mR f y fs;omega
 ·rw[ny];by_cases q:g=f;·rw[if_pos q,if_pos q];exact ry
  ·rw[if_neg q,if_neg q];exact r g
 ·by_cases q:g=f;·rw[q];exact(lW f y fs).1
  ·refine(lW f y fs).2 g (wi g λz=>hg ?_);show(if g=f then some u else mA g)=none;rw[if_neg q];exact z
def Inv.made(I:Inv X pins σ H s):Inv X pins σ (upd (upd H s.heap.objs.size (.own (s.heap.objs.size+1))) (s.heap.objs.size+1) (.ins C s.heap.objs.size []))
  { s with heap:=(s.heap.push W.emptyDict).push (W.instObj C s.heap.objs.size) }:=by
 have e1:(s.heap.push W.emptyDict).get? s.heap.objs.size=some W.emptyDict:=Heap.get?_push_size s.heap rfl;have e2:((s.heap.push W.emptyDict).push (W.instObj C s.heap.objs.size)).get? (s.heap.objs.size+1)=some (W.instObj C s.heap.objs.size):=by
  have:=Heap.get?_push_size (s.heap.push W.emptyDict) (o:=W.instObj C s.heap.objs.size) rfl
  rwa [Heap.size_push]at this
 have e3:(s.heap.push W.emptyDict).Ns s.heap.objs.size (λ_=>none):=⟨W.emptyDict,#[],_,e1,rfl,(λe he=>absurd he (by simp)),λ_=>rfl⟩
 have I1:=I.laid (a:=s.heap.objs.size) (o:=.own (s.heap.objs.size+1)) (t':=s.toks) (λb u q=>Heap.get?_push_of_some _ q) (Nat.le_refl _) ⟨_,e1⟩;refine I1.laid (λb u q=>Heap.get?_push_of_some _ q) (Nat.le_of_eq (Heap.size_push _ _)) ?_;have ne:s.heap.objs.size≠s.heap.objs.size+1:=Nat.ne_of_lt (Nat.lt_succ_self _);refine⟨by rw[aw ne,aF],Nat.zero_le _,ne,e2,λ_=>none,(Heap.Ns1.of_empty e3).at λo q=>Heap.get?_push_of_some _ q,λ_=>True.intro,λy hy=>absurd rfl hy⟩
def FI{prog:Program}{w:World}{env:Env}{e:Expr}{f:Str}{Q:Value->Shared->Prop}(hb:attributeBase e f env (eval e env)=eval e env)(h:wpAny (model prog w) A (eval e env) (λo s₁=>wpAny (model prog w) A (getAttr o f true) Q E s₁) E s):wpAny (model prog w) A (eval (.Attribute e f pos) env) Q E s:=
 Attribute_any_ h (by rw[arm_eval_Attribute,hb])
end
noncomputable def N3(K:W.Frag)(ta:TE)(f:Str):TE:=λσ H Q=>ta σ H λx H1=>∃a C dx fs v,x=.ref a/\H1 a=some (.ins C dx fs)/\Cls K C/\NoAttr K C f/\fs.lookup f=some v/\Q v H1
noncomputable def OD(K:W.Frag)(ta tv:TE)(f:Str):TS:=λD σ H=>tv σ H λy H1=>ta σ H1 λx H2=>∃a C dx fs,x=.ref a/\H2 a=some (.ins C dx fs)/\Cls K C/\NoAttr K C f/\fs.length<1000/\
 D.nx σ (upd H2 a (.ins C dx (pT f y fs)))
section
variable{o e value:Expr}{f:Str}{pos' tpos:Pos}{ta tv:TE}
def D1(he:PE X e ta)(hb:attributeBase e f X.env (eval e X.env)=eval e X.env):PE X (.Attribute e f pos) (N3 X.K ta f):=by intro pins s σ H Q I h;refine FI hb (thn (he pins s σ H _ I h) λu s1 ⟨x,H1,I1,rx,a,C,dx,fs,v,ex,ea,c,n,l,q⟩=>?_);subst ex;obtain rfl:u=Value.ref a:=rx;exact xw I1 ea c n l λu' s2 I2 ru=>⟨v,H1,I2,ru,q⟩
def JY(ha:PE X o ta)(hv:PE X value tv)(hs:swapsWith value (some (.Attribute o f pos')) pos.line X.env=pure false):PS X (.Assign [.Attribute o f pos'] value pos) (OD X.K ta tv f):=by intro pins s σ H D I h;refine plainObj_wpAny_Assign_Attribute (thn (hv pins s σ H _ I h) λu s1 ⟨y,H1,I1,ry,q⟩=>thn (ha pins s1 σ H1 _ I1 q) λov s2 ⟨x,H2,I2,rx,a,C,dx,fs,ex,ea,c,n,l,q2⟩=>?_) hs;subst ex;obtain rfl:ov=Value.ref a:=rx;exact xq I2 ea c n l ry λs3 I3=>⟨σ,_,I3,q2⟩
end
section
variable{A:Around}{Q:Value->Shared->Prop}{c:Value}{b:Bool}
inductive TyOf(K:W.Frag)(H:Hp):V->Value->Prop where
 |non:TyOf K H .non (.type "NoneType")
 |bl (x:Bool):TyOf K H (.bl x) (.type "bool")
 |int (i:Int):TyOf K H (.int i) (.type "int")
 |str (x:Str):TyOf K H (.str x) (.type "str")
 |flt (x:UInt64):TyOf K H (.flt x) (.type "float")
 |lst {a:Addr} {xs:List V} (e:H a=some (.lst xs)):TyOf K H (.ref a) (.type "list")
 |frz {a:Addr} {o:Obj} {xs:List V} (e:H a=some (.frz o (.lst xs))):TyOf K H (.ref a) (.type "list")
 |tup {a:Addr} {xs:List V} (e:H a=some (.tup xs)):TyOf K H (.ref a) (.type "tuple")
 |dK {a:Addr} {kvs:List (Key×V)} (e:H a=some (.dK kvs)):TyOf K H (.ref a) (.type "dict")
 |dT {a:Addr} {kvs:List (List Key×V)} (e:H a=some (.dT kvs)):TyOf K H (.ref a) (.type "dict")
 |ins {a C dx:Addr} {fs:List (Str×V)} (e:H a=some (.ins C dx fs)) (cl:Cls K C) (ha:W.findIn K (.ref C) "__class__"=some (some (.builtin "object.__class__")))
   (hn:W.specialIn K (.builtin "object.__class__") "__get__"=some (some (.builtin "getset_descriptor.__get__"))) (htk:W.takesIn K (.builtin "object.__class__")=some true)
   (hm:W.mroIn K C (.type "object")=some true):TyOf K H (.ref a) (.ref C)
end
structure Room(k:Nat)(A:Around):Prop where
 hd:A.handled=none
 dp:A.depth+3 * k+5<recursionLimit
 un:A.units+16 * k+200<cLine
def Room.mono{A:Around}(r:Room k A)(h:j<=k):Room j A:=⟨r.hd,by have:=r.dp;omega,by have:=r.un;omega⟩
def Room.deeper{A:Around}(r:Room (k+1) A)(env:Env):Room k (A.deeper env):=
 ⟨r.hd,by have:=r.dp;show A.depth+1+3 * k+5<_;omega,by have:=r.un;show A.units+3+16 * k+200<_;omega⟩
def Room.in1{A:Around}(r:Room (k+1) A):Room k A.in1:=
 ⟨r.hd,by have:=r.dp;show A.depth+3 * k+5<_;omega,by have:=r.un;show A.units+1+16 * k+200<_;omega⟩
def xm{A:Around}{kw:List (Str×Value)}:(A.under (.builtin "type.__call__" ⟨.ref C::us,kw⟩)).depth=A.depth+1:=by first|rfl|simp[Around.under,Code.weight,Code.isCreation,Code.isGuard,Code.isCaller,Code.frames,Code.isFrame,guardIds]
def xX{A:Around}{kw:List (Str×Value)}:(A.under (.builtin "type.__call__" ⟨.ref C::us,kw⟩)).units=A.units+1:=by first|rfl|simp[Around.under,Code.cUnits,Code.frames,Code.isFrame]
def Room.make{A:Around}(r:Room (k+1) A)(C:Addr)(us:List Value)(kw:List (Str×Value)):Room k (A.under (.builtin "type.__call__" ⟨.ref C::us,kw⟩)):=
 ⟨r.hd,by have:=r.dp;rw[xm];omega,by have:=r.un;rw[xX];omega⟩
def Room.depth{A:Around}(r:Room k A):A.depth<recursionLimit:=by have:=r.dp;omega
def Room.units{A:Around}(r:Room k A):A.units+64<cLine:=by have:=r.un;omega
noncomputable def L4:TA:=λ_ H Q=>Q [] H
noncomputable def CY(ta:TE)(tr:TA):TA:=λσ H Q=>ta σ H λx H1=>tr σ H1 λxs H2=>Q (x::xs) H2
section
variable{e:Expr}{te:TE}{t:TA}
def jj:PA X [] L4:=λ_ _ _ _ H Q I h=>Calls.spliced_nil ⟨[],H,I,.nil,h⟩
def cW(ha:PE X e te)(hr:PA X es t)(hs:starEach (e::es) X.env=(false,eval e X.env)::starEach es X.env:=by rfl):PA X (e::es) (CY te t):=by intro pos pins s σ H Q I h;rw[hs];refine Calls.spliced_cons (thn (ha pins s σ H _ I h) λu s1 ⟨x,H1,I1,r1,q1⟩=>?_);exact thn (hr pos pins s1 σ H1 _ I1 q1) λus s2 ⟨xs,H2,I2,r2,q2⟩=>⟨x::xs,H2,I2,.cons r1 r2,q2⟩
noncomputable def OH(t:TA):TE:=λσ H Q=>t σ H λxs H1=>xs.length<=sizeLine/\∀p,H1 p=none->Q (.ref p) (upd H1 p (.tup xs))
noncomputable def Of(t:TA):TE:=λσ H Q=>t σ H λxs H1=>xs.length<=sizeLine/\∀p,H1 p=none->Q (.ref p) (upd H1 p (.lst xs))
def JZ {x1} (h:PA X es t):PE X (.Tuple es x1 pos) (OH t):=by intro pins s σ H Q I hq;refine wpAny_Tuple_spliced (thn (h pos pins s σ H _ I hq) λus s1 ⟨xs,H1,I1,r,z,q⟩=>⟨by rw[<- r.length];exact z,?_⟩);have hf:=I1.hok.fresh (Nat.le_refl _);refine⟨.ref s1.heap.objs.size,upd H1 s1.heap.objs.size (.tup xs),I1.laid (λb u e=>Heap.get?_push_of_some _ e) (Nat.le_refl _) ?_,rfl,q _ hf⟩;exact⟨z,us,r,⟨_,Heap.get?_push_size _ rfl,rfl,_,rfl⟩⟩
def Jt(h:PA X es t):PE X (.List es pos) (Of t):=by intro pins s σ H Q I hq;refine wpAny_List_spliced (thn (h pos pins s σ H _ I hq) λus s1 ⟨xs,H1,I1,r,z,q⟩=>⟨by rw[<- r.length];exact z,?_⟩);have hf:=I1.hok.fresh (Nat.le_refl _);refine⟨.ref s1.heap.objs.size,upd H1 s1.heap.objs.size (.lst xs),I1.laid (λb u e=>Heap.get?_push_of_some _ e) (Nat.le_refl _) ?_,rfl,q _ hf⟩;exact⟨z,us,0,r,Heap.get?_push_size _ rfl⟩
end
noncomputable abbrev Sp:=List V->Hp->VK->XK->Prop
noncomputable abbrev CXT:=List Env->Hp->Shared->XK->Value->Shared->Prop
structure Env0(P:Program)(w:World)(K:W.Frag)(mg:Str->Option Value)(base:Heap)(A:Around)(outer:List Env)(s:Shared)(H:Hp):Prop where
 frames:A.frames=some outer
 mod:Mod K mg base
 bs:∀b o,base.get? b=some o->s.heap.get? b=some o/\H b=none
 bsz:base.objs.size<=s.heap.objs.size
 funs:s.heap.FunFrames base outer
 frf:∀b∈frs outer,H b=none
 hok:HOk P w H s.heap
 bare:AllBare s.gens
 tabs:TabsIn base H
noncomputable def CE(outer:List Env)(P:Program)(w:World)(H:Hp)(s:Shared)(Q:VK)(u:Value)(s':Shared):Prop:=
 ∃v H',s'.os=s.os/\AllBare s'.gens/\Un (frs outer) [] H H' s.heap s'.heap/\HOk P w H' s'.heap/\RelV v u/\Q v H'
noncomputable def CR(CX:CXT)(outer:List Env)(P:Program)(w:World)(H:Hp)(s:Shared)(Q:VK)(E:XK)(r:Result)(s':Shared):Prop:=
 match r with
 |.ok (.ret u)=>CE outer P w H s Q u s'
 |.ok _=>False
 |.error e=>CX outer H s E e s'
structure FnOk(P:Program)(w:World)(K:W.Frag)(mg:Str->Option Value)(base:Heap)(CX:CXT)(k:Nat)(f:Addr)(fd:FuncData)(ps:List Str)(sp:Sp):Prop where
 len:∀vs H Q E,sp vs H Q E->vs.length=ps.length
 run:∀(A:Around)(outer:List Env)(s:Shared)(H:Hp)(args:Args)(us:List Value)(vs:List V)(Q:VK)(E:XK),Room k A->Env0 P w K mg base A outer s H->BindsTo s fd args (ps.zip us)->Vals vs us->sp vs H Q E->
  codeAny (model P w) A (.call (.ref f) args) (CR CX outer P w H s Q E) s
def FnOk.imp{w:World}{K:W.Frag}{mg:Str->Option Value}{base:Heap}{CX:CXT}{sp sp':Sp}(F:FnOk P w K mg base CX k f fd ps sp)(h:∀vs H Q E,sp' vs H Q E->sp vs H Q E):FnOk P w K mg base CX k f fd ps sp':=
 ⟨λvs H Q E q=>F.len vs H Q E (h _ _ _ _ q),λA outer s H args us vs Q E hr he hb hv hs=>F.run A outer s H args us vs Q E hr he hb hv (h _ _ _ _ hs)⟩
def Env0.make{w:World}{K:W.Frag}{mg:Str->Option Value}{base:Heap}{A:Around}{outer:List Env}(e:Env0 P w K mg base A outer s H)(C:Addr)(us:List Value)(kw:List (Str×Value)):
  Env0 P w K mg base (A.under (.builtin "type.__call__" ⟨.ref C::us,kw⟩)) outer s H:=⟨by first|exact e.frames|(simpa[Around.under,Code.envs,Code.isFrame,pushEnvs]using e.frames),e.mod,e.bs,e.bsz,e.funs,e.frf,e.hok,e.bare,e.tabs⟩
section
def Inv.env0(I:Inv X pins σ H s):Env0 X.prog X.w X.K X.mg X.base X.A X.stack s H:=
 ⟨I.ok.frames,I.ok.mod,I.bs,Nat.le_trans I.ok.bsz I.sz,I.stack,I.stkFree,I.hok,I.bare,I.ok.tabs.un I.base⟩
def Inv.after{Q:VK}(I:Inv X pins σ H s)(h:CE X.stack X.prog X.w H s Q u s'):EP X pins σ Q u s':=by obtain⟨v,H',os,bare,un,hok,r,q⟩:=h;obtain⟨hh,g,d,t,os'⟩:=s';obtain rfl:os'=s.os:=os;exact⟨v,H',I.call un hok bare (λb z=>absurd z (by simp)),r,q⟩
end
noncomputable def Binds(K:W.Frag)(fd:FuncData)(ps:List Str)(ds:List Value):Prop:=
 ∀(s:Shared)(us:List Value),K.In s.heap->(us++ds).length=ps.length->BindsTo s fd ⟨us,[]⟩ (ps.zip (us++ds))
def Binds.all{K:W.Frag}(h:∀us:List Value,us.length=ps.length->bindArgs fd ⟨us,[]⟩=pure (ps.zip us)):Binds K fd ps []:=λs us _ hl=>by rw[List.append_nil]at hl⊢;exact .of_eq (h us hl)
section
variable{CX:CXT}{sp:Sp}{dvs:List V}{ds:List Value}{E:XK}{m:Str}{p apos:Pos}{e o:Expr}{ta:TE}{t:TA}
structure Mk(K:W.Frag)(C f:Addr):Prop where
 makes:W.makesIn K C=true
 init:W.findIn K (.ref C) "__init__"=some (some (.ref f))
 fn:W.isFn K (.ref f)=true
 kp:W.keepIn K (.ref C)=true
end
section
variable{CX:CXT}{ks:List Str}{sp:Sp}{E:XK}{m:Str}{p apos kpos:Pos}{e o:Expr}{kws:List Keyword}{te ta:TE}{t tk:TA}{nm:Option Str}
structure KBinds(K:W.Frag)(fd:FuncData)(ps ks:List Str)(g:List Value->List Value->List Value)(gV:List V->List V->List V):Prop where
 to:∀(s:Shared)(us ws:List Value),K.In s.heap->(g us ws).length=ps.length->BindsTo s fd ⟨us,ks.zip ws⟩ (ps.zip (g us ws))
 rel:∀{vs:List V}{us:List Value}{zs:List V}{ws:List Value},Vals vs us->Vals zs ws->Vals (gV vs zs) (g us ws)
variable{g:List Value->List Value->List Value}{gV:List V->List V->List V}
end
structure FnScope(N P:List Str)(sc:Scope):Prop where
 kind:sc.kind=.function
 co:sc.isCoroutine=false
 gen:sc.isGenerator=false
 nd:N.Nodup
 pre:N.take P.length=P
 par:∀x∈P,sc.names.lookup x=some .local\/sc.names.lookup x=some .cell
 nofree:∀y∈sc.names,y.2≠.free
theorem rL{kindOf:Str->Option NameKind}{x:Str}:∀{binds:List (Str×Value)}{m:Str->Option Value},(∀v,(x,v)∉binds)->bindL kindOf binds m x=m x
 | [],_,_=>rfl
 | (n,v)::r,m,h=>by
  unfold bindL;rw[rL λw hw=>h w (List.mem_cons_of_mem _ hw)];split
  ·have:x≠n:=by rintro rfl;exact h v List.mem_cons_self
   simp[this]
  ·rfl
theorem qX{kindOf:Str->Option NameKind}{x:Str}:∀{binds:List (Str×Value)}{m:Str->Option Value},(∀v,(x,v)∉binds)->bindC kindOf binds m x=m x
 | [],_,_=>rfl
 | (n,v)::r,m,h=>by
  unfold bindC;rw[qX λw hw=>h w (List.mem_cons_of_mem _ hw)];split;·rfl
  ·have:x≠n:=by rintro rfl;exact h v List.mem_cons_self
   simp[this]
theorem sK{kindOf:Str->Option NameKind}{x:Str}{v:Value}:∀{P:List Str}{vs:List Value}{i:Nat}{m:Str->Option Value},P.Nodup->P[i]?=some x->vs[i]?=some v->kindOf x=some .local->
  bindL kindOf (P.zip vs) m x=some v
 | [],_,_,_,_,h,_,_=>by simp at h
 |_::_,[],_,_,_,_,h,_=>by simp at h
 |p::P,w::vs,0,m,nd,h1,h2,hk=>by simp at h1 h2;subst h1;subst h2;show bindL kindOf ((p,w)::P.zip vs) m p=_;unfold bindL;rw[rL λv hv=>(List.nodup_cons.mp nd).1 (List.of_mem_zip hv).1,if_pos hk];simp
 |p::P,w::vs,i+1,m,nd,h1,h2,hk=>by show bindL kindOf ((p,w)::P.zip vs) m x=_;exact sK (List.nodup_cons.mp nd).2 (by simpa using h1) (by simpa using h2) hk
theorem rg{kindOf:Str->Option NameKind}{x:Str}{v:Value}:∀{P:List Str}{vs:List Value}{i:Nat}{m:Str->Option Value},P.Nodup->P[i]?=some x->vs[i]?=some v->kindOf x≠some .local->
  bindC kindOf (P.zip vs) m x=some v
 | [],_,_,_,_,h,_,_=>by simp at h
 |_::_,[],_,_,_,_,h,_=>by simp at h
 |p::P,w::vs,0,m,nd,h1,h2,hk=>by simp at h1 h2;subst h1;subst h2;show bindC kindOf ((p,w)::P.zip vs) m p=_;unfold bindC;rw[qX λv hv=>(List.nodup_cons.mp nd).1 (List.of_mem_zip hv).1,if_neg hk];simp
 |p::P,w::vs,i+1,m,nd,h1,h2,hk=>by show bindC kindOf ((p,w)::P.zip vs) m x=_;exact rg (List.nodup_cons.mp nd).2 (by simpa using h1) (by simpa using h2) hk
noncomputable def start(N:List Str)(vs:List V):St:=vs.map some++List.replicate (N.length - vs.length) none
noncomputable def hU(CX:CXT)(P:Program)(w:World)(K:W.Frag)(mg:Str->Option Value)(base:Heap)(N:List Str)(qual:Str)(scope:Scope)(f:Addr)(cd:Value)(A:Around)(outer:List Env)(s:Shared)(H:Hp)(E:XK):Cx where
 prog:=P
 w:=w
 K:=K
 mg:=mg
 base:=base
 A:=A.deeper (envOfC qual scope s.heap.objs.size f cd)
 N:=N
 s₀:=s
 H₀:=H
 env:=envOfC qual scope s.heap.objs.size f cd
 outer:=outer
 stack:=envOfC qual scope s.heap.objs.size f cd::outer
 ex:=[]
 calm:=true
 fn:=λ_=>true
 pn:=[]
 xe:=λe s'=>wpAny (model P w) (A.deeper (envOfC qual scope s.heap.objs.size f cd)) (leaving (envOfC qual scope s.heap.objs.size f cd) e) (λ_ s''=>CX outer H s E e s'') (λe' s''=>CX outer H s E e' s'') s'
def wc{sc:Scope}{n:Nat}(h:sc.names.lookup x=some .cell):∃c,(cellsFrom n sc.names []).lookup x=some c:=by have q:=W.cellsFrom_some sc.names n [] (.inl h);exact Option.isSome_iff_exists.mp q
def yf{CX:CXT}{w:World}{K:W.Frag}{mg:Str->Option Value}{base:Heap}{N:List Str}{cd:Value}{A:Around}{outer:List Env}{s1:Shared}{E:XK}(S:FnScope N ps scope)(hd:A.handled=none)(e0:Env0 P w K mg base A outer s H)(hl:vs.length=ps.length)(r:Vals vs us)(x:InCallC s s.heap.objs.size (bindL (envOfC qual scope s.heap.objs.size f cd).kindOf (ps.zip us) λ_=>none) (cellsFrom (s.heap.objs.size+1) scope.names []) (bindC (envOfC qual scope s.heap.objs.size f cd).kindOf (ps.zip us) λ_=>none) s1):
  Inv (hU CX P w K mg base N qual scope f cd A outer s H E) [] (start N vs) H s1:=by
 have hpl:ps.length<=N.length:=by have:=congrArg List.length S.pre;rw[List.length_take]at this;omega
 obtain⟨h1,tk,rfl,hk⟩:=x.done;have noA:∀b:Addr,b∉(hU CX P w K mg base N qual scope f cd A outer s H E).ex:=λb z=>absurd (show b∈([]:List Addr) from z) (by simp);refine⟨⟨e0.mod,S.kind,rfl,rfl,Nat.le_refl _,λy z c h1 h2=>?_,λy hy=>?_,λy c _ h=>?_,λ_=>hd,Around.frames_deeper e0.frames,.inr ⟨rfl,rfl⟩,λb z=>absurd z (noA b),e0.bs,e0.bsz,λb _ _=>noA b,λb z=>absurd z (noA b),e0.funs,e0.frf,e0.tabs⟩,
  rfl,e0.bare,Un.kept hk,⟨_,x.toInCall.ns,λi y v h1 h2 h3=>?_⟩,λy c h=>⟨_,x.cell y c h⟩,e0.hok.fresh (Nat.le_refl _),λy c h=>?_,λp hp=>absurd (show p∈([]:List (Addr×Obj)) from hp) (by simp),e0.hok.kept hk,?_⟩;·exact name_of_addr x.apart (PySem.mem_of_lookup h1) (PySem.mem_of_lookup h2)
 ·rcases hy with hy|hy;·exact wc hy
  ·exact absurd rfl (S.nofree _ (PySem.mem_of_lookup hy))
 ·exact Nat.le_of_lt (x.above y c (PySem.mem_of_lookup h))
 ·have hi:i<vs.length:=by
   unfold start at h2;by_cases hi:i<vs.length;·exact hi
   ·rw[List.getElem?_append_right (by simpa using hi)]at h2;rw[List.getElem?_replicate]at h2;split at h2 <;> cases h2
  have ha:vs[i]?=some v:=by
   unfold start at h2;rw[List.getElem?_append_left (by simpa using hi),List.getElem?_map]at h2;cases e:vs[i]? with
   |none=>rw[e]at h2;cases h2
   |some a=>rw[e]at h2;cases h2;rfl
  obtain⟨u,hu,rv⟩:=r.get ha;have hp:ps[i]?=some y:=by rw[<- S.pre,List.getElem?_take_of_lt (by omega)];exact h1
  have ndP:ps.Nodup:=by rw[<- S.pre];exact S.nd.sublist (List.take_sublist _ _)
  refine⟨u,rv,?_⟩;rcases S.par y (List.mem_of_getElem? hp)with k|k;·exact .inl ⟨k,sK ndP hp hu k⟩
  ·obtain⟨c,e⟩:=wc k;refine .inr ⟨.inl k,c,e,?_⟩;have q:=x.cell y c e;rw[rg ndP hp hu (by show scope.names.lookup y≠_;rw[k];decide)]at q;exact q
 ·exact e0.hok.fresh (Nat.le_of_lt (x.above y c (PySem.mem_of_lookup h)))
 ·unfold start;show _=N.length;rw[List.length_append,List.length_map,List.length_replicate];omega
def GN{CX:CXT}{w:World}{K:W.Frag}{mg:Str->Option Value}{base:Heap}{name:Str}{params:Arguments}{body:List Stmt}{dV kV doc pm ct:Value}{N:List Str}{sp:Sp}(lk:K.lookup f=some ⟨oc,od,.func (W.fnOf name qual params body scope dV kV doc pm an cdv ct),osl⟩)(hcd:W.codeIn K cdv qual=true)(S:FnScope N ps scope)(len:∀vs H Q E,sp vs H Q E->vs.length=ps.length)(hbody:∀(A:Around)(outer:List Env)(s:Shared)(H:Hp)(vs:List V)(Q:VK)(E:XK),Room k (A.deeper (envOfC qual scope s.heap.objs.size f cdv))->sp vs H Q E->
 ∃t,PSs (hU CX P w K mg base N qual scope f cdv A outer s H E) body t/\t { nx:=λ_ H'=>Q .non H',rt:=Q } (start N vs) H):
  FnOk P w K mg base CX (k+1) f (W.fnOf name qual params body scope dV kV doc pm an cdv ct) ps sp:=by
 refine⟨len,λA outer s H args us vs Q E hr e0 hb r hsp=>?_⟩;have hl:=len _ _ _ _ hsp;have KX:=e0.mod.kin.keeps λb o e=>(e0.bs b o e).1;have lim:=e0.mod.nolimit.keeps λb o e=>(e0.bs b o e).1;have hkind:∀y∈ps.zip us,scope.names.lookup y.1=some .local\/(scope.names.lookup y.1=some .cell/\((cellsFrom (s.heap.objs.size+1) scope.names []).lookup y.1).isSome=true):=λ⟨n,v⟩ hy=>by
  rcases S.par n (List.of_mem_zip hy).1 with q|q;·exact .inl q
  ·exact .inr ⟨q,W.cellsFrom_some _ _ _ (.inl q)⟩
 refine codeAny_call_function hr.depth (KX _ _ lk) rfl S.co S.gen rfl (W.codeRec_of KX hcd) (hb _ _ _ _ ?_);refine wpAny_newFunctionEnv_cells S.kind hkind λenv he s1 x=>?_;subst he;refine⟨lim.keeps x.toInCall.keep,codeAny_func ?_⟩;obtain⟨t,ht,hq⟩:=hbody A outer s H vs Q E (hr.deeper _) hsp;have I:Inv (hU CX P w K mg base N qual scope f cdv A outer s H E) [] (start N vs) H s1:=yf S hr.hd e0 hl r x;refine wpAny_mono (ht [] s1 (start N vs) H _ I hq) (λfl s' hs=>?_) λe s' hs=>hs;have fin:∀{σ':St}{H':Hp}{v:V}{u:Value},Inv (hU CX P w K mg base N qual scope f cdv A outer s H E) [] σ' H' s'->RelV v u->Q v H'->CE outer P w H s Q u s':=
  λ{σ' H' v u} J rv q=>⟨v,H',J.os,J.bare,J.base,J.hok,rv,q⟩
 cases fl with
 |ret u=>obtain⟨v,σ',H',J,rv,q⟩:=hs;exact fin J rv q
 |next=>obtain⟨σ',H',J,q⟩:=hs;exact fin (v:=V.non) J rfl q
 |brk=>obtain⟨_,_,_,q⟩:=hs;exact False.elim q
 |cont=>obtain⟨_,_,_,q⟩:=hs;exact False.elim q
end L2
variable{CX:L2.CXT}
namespace L2
open PySem PySem.Spec PyProof.Rows
section
variable{p:Pos}{e:Expr}{t:TA}{id T:String}{r:List V->Hp->VK->Prop}
noncomputable def tCB(r:List V->Hp->VK->Prop)(t:TA):TE:=λσ H Q=>t σ H λvs H1=>r vs H1 Q
def wF(hc:lS X (.builtin id) r)(hg:Gl X x)(hm:X.mg x=none)(hv:bootBuiltins x=some (.builtin id))(ha:PA X (e::es) t)(hn:x≠"__name__":=by decide)(hdb:(x==("__debug__":Str))=false:=by decide)(he:starEach (e::es) X.env=(false,eval e X.env)::starEach es X.env:=by rfl)(hpl:(backTo pos (starEach es X.env)).any (·.1)=false:=by rfl):PE X (.Call (.Name x p) (e::es) [] pos) (tCB r t):=by
 intro pins s σ H Q I h;refine wpAny_Call_Name_kw (mK I hg hm hv ?_ hn hdb);exact callWith_builtin1 (thn (ha pos pins s σ H _ I h) λus s1 ⟨vs,H1,I1,r1,q1⟩=>hc pins s1 σ H1 vs us Q I1 r1 q1) he hpl
def nq(hc:lS X (.type T) r)(hg:Gl X x)(hm:X.mg x=none)(hv:bootBuiltins x=some (.type T))(ha:PA X (e::es) t)(hn:x≠"__name__":=by decide)(hdb:(x==("__debug__":Str))=false:=by decide)(he:starEach (e::es) X.env=(false,eval e X.env)::starEach es X.env:=by rfl)(hpl:(backTo pos (starEach es X.env)).any (·.1)=false:=by rfl):PE X (.Call (.Name x p) (e::es) [] pos) (tCB r t):=by
 intro pins s σ H Q I h;refine wpAny_Call_Name_kw (mK I hg hm hv ?_ hn hdb);exact callWith_type1 (thn (ha pos pins s σ H _ I h) λus s1 ⟨vs,H1,I1,r1,q1⟩=>hc pins s1 σ H1 vs us Q I1 r1 q1) he hpl
end
end L2
namespace HT
open PySem PyProof.Rows
section
open PySem.SeqAt
open PySem.AutoSeq1 (wpAny_loadPart')
open PySem.MeetsSeq PySem.MeetsSeq2 PySem.MeetsSeq3
end
section
variable{prog:Program}{w:World}{A:Around}
theorem cat_tup{t:Addr}{vs ws:List Value}{Q:Value->Shared->Prop}(ht:IsTup s.heap t vs.toArray)(hb:IsTup s.heap b ws.toArray)(hv:vs≠[])(h1:ws=[]->Q (.ref t) s)(h2:ws≠[]->Q (.ref s.heap.objs.size) { s with heap:=s.heap.push { cls:=.type "tuple",data:=.seq (vs++ws).toArray } })(hsz:vs.length+ws.length<=sizeLine):wpAny (model prog w) A (binaryOp .Add (.ref t) (.ref b)) Q E s:=by
 obtain⟨⟨cls,dd,data,sl⟩,ho,hc,n,hd⟩:=id ht;obtain⟨⟨cls2,dd2,data2,sl2⟩,ho2,hc2,n2,hd2⟩:=id hb;subst hc hd hc2 hd2;have e:vs.toArray++ws.toArray=(vs++ws).toArray:=by simp
 by_cases hw:ws=[]
 ·exact concat_meets ⟨_,ho,rfl⟩ ⟨_,ho2,rfl⟩ noFill_tuple_add seq_tuple_add F.slot_tuple_add F.entry_tuple_add (F.args_tuple_add_2 _ _)
   (tuple_addW1 t b vs.toArray ws.toArray n n2 dd dd2 sl sl2 (by simpa using hv) (by simp[hw])) ⟨ho,ho2,h1 hw⟩
 ·refine concat_meets ⟨_,ho,rfl⟩ ⟨_,ho2,rfl⟩ noFill_tuple_add seq_tuple_add F.slot_tuple_add F.entry_tuple_add (F.args_tuple_add_2 _ _)
   (tuple_addW2 t b vs.toArray ws.toArray n n2 dd dd2 sl sl2 (by simpa using hv) (by simpa using hw) (by rw[List.size_toArray,List.size_toArray];exact hsz)) ⟨ho,ho2,?_⟩;rw[e];exact h2 hw
noncomputable def sIx(n d:Nat):Option Int->Nat
 |none=>d
 |some v=>if v<0 then (v+(n:Int)).toNat else min v.toNat n
def sIx_none(n d:Nat):sIx n d none=d:=rfl
def sIx_nat(n d k:Nat):sIx n d (some (k:Int))=min k n:=by show(if (k:Int)<0 then ((k:Int)+(n:Int)).toNat else min (k:Int).toNat n)=min k n;rw[if_neg (by omega),Int.toNat_natCast]
def sIx_le(n d:Nat)(hd:d<=n)(o:Option Int):sIx n d o<=n:=by
 cases o with
 |none=>exact hd
 |some v=>
  show(if v<0 then (v+(n:Int)).toNat else min v.toNat n)<=n;by_cases hv:v<0;·rw[if_pos hv];omega
  ·rw[if_neg hv];exact Nat.min_le_right _ _
def yU(v:Int)(n d:Nat):(if v<0 then max (v+(n:Int)) 0 else min v (n:Int))=((sIx n d (some v):Nat):Int):=by
 show(if v<0 then max (v+(n:Int)) 0 else min v (n:Int))=(((if v<0 then (v+(n:Int)).toNat else min v.toNat n):Nat):Int);by_cases hv:v<0;·simp only[if_pos hv];omega
 ·simp only[if_neg hv];omega
def xt(lo hi:Option Int)(n:Nat):Builtin.Slice.sliceAdjust lo hi 1 (n:Int)=(((sIx n 0 lo:Nat):Int),((sIx n n hi:Nat):Int)):=by
 refine Prod.ext ?_ ?_
 ·cases lo with
  |none=>rfl
  |some v=>exact yU v n 0
 ·cases hi with
  |none=>rfl
  |some v=>exact yU v n n
def xY(i j:Nat):Builtin.Slice.slicePlaces (i:Int) (j:Int) 1=j - i:=by unfold Builtin.Slice.slicePlaces;split <;> omega
def oO{v:Value}{o:Option Int}{Q:Option Int->Shared->Prop}(p:IsPart v o)(h:Q o s):wpAny (model prog w) A (Builtin.Slice.slicePartIndex v) Q E s:=by
 cases p with
 |none=>exact slicePart_none h
 |int i t=>exact slicePart_int h
def sliceApplied_gen{sl:Addr}{vl vu:Value}{lo hi:Option Int}{n:Nat}{Q:Int×Int×Nat->Shared->Prop}(hs:s.heap.IsSliceOf sl vl vu .none)(pl:IsPart vl lo)(pu:IsPart vu hi)(h:Q (((sIx n 0 lo:Nat):Int),1,sIx n n hi - sIx n 0 lo) s):wpAny (model prog w) A (Builtin.Slice.sliceApplied (.ref sl) (pure (n:Int))) Q E s:=by
 obtain⟨os,hos,hcs,hds⟩:=id hs;refine wpAny_bind (wpAny_bind (wpAny_field hos hds rfl (wpAny_bind (wpAny_field hos hds rfl (wpAny_bind (wpAny_field hos hds rfl (wpAny_pure ?_)))))));refine wpAny_bind (slicePart_none ?_);refine wpAny_bind (oO pl (wpAny_bind (oO pu (wpAny_bind (wpAny_pure ?_)))));show wpAny _ _ (match Builtin.Slice.sliceAdjust lo hi 1 (n:Int)with|(lo,hi)=>pure (lo,(1:Int),Builtin.Slice.slicePlaces lo hi 1)) _ _ s;rw[xt lo hi n];show wpAny _ _ (pure (((sIx n 0 lo:Nat):Int),(1:Int),Builtin.Slice.slicePlaces ((sIx n 0 lo:Nat):Int) ((sIx n n hi:Nat):Int) 1)) _ _ s;rw[xY];exact wpAny_pure h
def BC(xs:Array Value)(i k:Nat):((List.range k).filterMap λ(m:Nat)=>xs[((i:Int)+(m:Int) * 1).toNat]?).toArray=((xs.toList.drop i).take k).toArray:=by
 have e:(λ(m:Nat)=>xs[((i:Int)+(m:Int) * 1).toNat]?)=λm=>xs[i+m]?:=by
  funext m
  have:((i:Int)+(m:Int) * 1).toNat=i+m:=by omega
  rw[this]
 rw[e];have:=pick_run xs i k;rw[List.filterMap_map]at this;have e2:((λx=>xs[x]?) ∘ λx=>i+x)=λm=>xs[i+m]?:=rfl;rw[e2]at this;rw[this]
def getItem_tuple_cut{t sl:Addr}{items:Array Value}{vl vu:Value}{lo hi:Option Int}{Q:Value->Shared->Prop}(ht:IsTup s.heap t items)(hs:s.heap.IsSliceOf sl vl vu .none)(pl:IsPart vl lo)(pu:IsPart vu hi)(hw : ¬ (sIx items.size 0 lo=0/\sIx items.size items.size hi=items.size))(h:Q (.ref s.heap.objs.size) { s with heap:=s.heap.push { cls:=.type "tuple",data:=.seq ((items.toList.drop (sIx items.size 0 lo)).take (sIx items.size items.size hi - sIx items.size 0 lo)).toArray } })(hsz:items.size<=sizeLine):wpAny (model prog w) A (getItem (.ref t) (.ref sl)) Q E s:=by
 have htake:sizeOk (.seq ((items.toList.drop (sIx items.size 0 lo)).take (sIx items.size items.size hi - sIx items.size 0 lo)).toArray):=by show((items.toList.drop (sIx items.size 0 lo)).take (sIx items.size items.size hi - sIx items.size 0 lo)).toArray.size<=sizeLine;rw[List.size_toArray,List.length_take,List.length_drop,Array.length_toList];omega
 obtain⟨os,hos,hcs,hds⟩:=id hs;have hTs:s.TypeIs (.ref sl) "slice":=⟨os,hos,hcs⟩
 unfold getItem
 try with_reducible refine wpAny_holding ?_
 refine wpAny_bind (wpAny_sequenceKey ht.typeIs (by decide) ?_);refine wpAny_bind (wpAny_callSpecial?_slot (name:=Str.ofString "__getitem__") ht.typeIs slot_tuple_getitem
  (wpAny_call_entry slot_tuple_getitem ht.typeIs entry_tuple_getitem ?_ (args_tuple_getitem _ _)));show wpAny _ _ (Builtin.Tuple.tupleItemsOf (.ref t)>>=_) _ _ s;refine wpAny_bind (tupleItemsOf_ ht ?_);refine wpAny_bind (wpAny_typeOf hTs ?_);refine wpAny_bind (sliceApplied_gen hs pl pu ?_);have hno : ¬ ((((sIx items.size 0 lo:Nat):Int)==0 && (1:Int)==1 && (sIx items.size items.size hi - sIx items.size 0 lo)==items.size)=true):=by
  intro q;rw[Bool.and_eq_true,Bool.and_eq_true]at q;have q1:=eq_of_beq q.1.1;have q2:=eq_of_beq q.2;exact hw ⟨by omega,by omega⟩
 show wpAny _ _ (if (((sIx items.size 0 lo:Nat):Int)==0 && (1:Int)==1 && (sIx items.size items.size hi - sIx items.size 0 lo)==items.size)=true then _ else _) _ _ s;rw[if_neg hno,BC]
 first
  |exact wpAny_bind (m:=Builtin.Tuple.tupleExact _) (wpAny_newObj_type (wpAny_pure ⟨_,rfl,wpAny_pure h⟩) htake)
  |exact wpAny_bind (wpAny_newObj_type (wpAny_bind (wpAny_pure (wpAny_pure ⟨_,rfl,wpAny_pure h⟩))) htake)
  |exact wpAny_bind (wpAny_bind (wpAny_newObj_type (wpAny_pure (wpAny_pure ⟨_,rfl,wpAny_pure h⟩)) htake))
  |exact wpAny_bind (wpAny_bind (wpAny_newObj_type (wpAny_pure ⟨_,rfl,wpAny_pure h⟩) htake))
end
end HT
namespace L2
open PySem PySem.Spec PyProof.Rows
noncomputable abbrev TO:=St->Hp->(Option Int->Hp->Prop)->Prop
noncomputable def PO(X:Cx)(e:Option Expr)(t:TO):Prop:=
 ∀(pins:List (Addr×Obj))(s:Shared)(σ:St)(H:Hp)(Q:Option Int->Hp->Prop),Inv X pins σ H s->t σ H Q->
  wpAny (model X.prog X.w) X.A (evalPart e X.env) (λu s'=>∃o H',Inv X pins σ H' s'/\IsPart u o/\Q o H') X.xe s
noncomputable def Fs:TO:=λ_ H Q=>Q none H
noncomputable def L1(t:TE):TO:=λσ H Q=>t σ H λx H1=>∃i,x=.int i/\Q (some i) H1
section
variable{e:Expr}{te:TE}{lo hi:Option Expr}{tl th:TO}{p2:Pos}
def G8:PO X none Fs:=by intro pins s σ H Q I h;exact wpAny_pure ⟨none,H,I,.none,h⟩
def EH(h:PE X e te):PO X (some e) (L1 te):=by intro pins s σ H Q I hw;refine thn (h pins s σ H _ I hw) λu s1 ⟨x,H1,I1,r1,q1⟩=>?_;obtain⟨i,rfl,q⟩:=q1;obtain⟨t,rfl⟩:=r1;exact⟨some i,H1,I1,.int i t,q⟩
noncomputable def SlR(X:Cx)(r:V->Option Int->Option Int->Hp->VK->Prop):Prop:=
 ∀(pins:List (Addr×Obj))(s:Shared)(σ:St)(H:Hp)(x:V)(v vl vu:Value)(lo hi:Option Int)(sl:Addr)(Q:VK),Inv X pins σ H s->RelV x v->s.heap.IsSliceOf sl vl vu .none->IsPart vl lo->IsPart vu hi->r x lo hi H Q->
  ∃T id,typeLookup (.type T) "__getitem__"=pure (some (.builtin id))/\s.TypeIs v T/\wpAny (model X.prog X.w) X.A (getItem v (.ref sl)) (EP X pins σ Q) X.xe s
def SlR.or{r r':V->Option Int->Option Int->Hp->VK->Prop}(h:SlR X r)(h':SlR X r'):SlR X (λx lo hi H Q=>r x lo hi H Q\/r' x lo hi H Q):=by
 intro pins s σ H x v vl vu lo hi sl Q I rx hs pl pu q;rcases q with q|q;·exact h pins s σ H x v vl vu lo hi sl Q I rx hs pl pu q
 ·exact h' pins s σ H x v vl vu lo hi sl Q I rx hs pl pu q
noncomputable def tSl(r:V->Option Int->Option Int->Hp->VK->Prop)(te:TE)(tl th:TO):TE:=λσ H Q=>te σ H λx H1=>tl σ H1 λl H2=>th σ H2 λu H3=>r x l u H3 Q
def Bw{r:V->Option Int->Option Int->Hp->VK->Prop}(hr:SlR X r)(he:PE X e te)(hl:PO X lo tl)(hu:PO X hi th):PE X (.Subscript e (.Slice lo hi none p2) pos) (tSl r te tl th):=by intro pins s σ H Q I h;refine Subscript_ (thn (he pins s σ H _ I h) λv s1 ⟨x,H1,I1,r1,q1⟩=>?_);refine wpAny_Slice (thn (hl pins s1 σ H1 _ I1 q1) λvl s2 ⟨l,H2,I2,pl,q2⟩=>thn (hu pins s2 σ H2 _ I2 q2) λvu s3 ⟨u,H3,I3,pu,q3⟩=>?_);refine wpAny_pure ?_;have I4:Inv X pins σ H3 { s3 with heap:=s3.heap.push { cls:=.type "slice",data:=.fields #[vl,vu,.none] } }:=I3.kept λb ob q=>Heap.get?_push_of_some _ q;obtain⟨T,id,hT,ht,hg⟩:=hr pins { s3 with heap:=s3.heap.push { cls:=.type "slice",data:=.fields #[vl,vu,.none] } } σ H3 x v vl vu l u s3.heap.objs.size Q I4 r1 (Heap.IsSliceOf.new ..) pl pu q3;exact tail_any ht hT hg (by with_unfolding_all rfl)
noncomputable def Hf(xs:List V)(lo hi:Option Int):List V:=(xs.drop (HT.sIx xs.length 0 lo)).take (HT.sIx xs.length xs.length hi - HT.sIx xs.length 0 lo)
def nc(xs:List V)(lo hi:Option Int):(Hf xs lo hi).length<=xs.length:=by unfold Hf;rw[List.length_take,List.length_drop];omega
noncomputable def Nk(K:W.Frag):V->Option Int->Option Int->Hp->VK->Prop:=λx lo hi H Q=>∃a xs,x=.ref a/\SqT K H a xs/\
 ¬ (HT.sIx xs.length 0 lo=0/\HT.sIx xs.length xs.length hi=xs.length)/\∀p,H p=none->Q (.ref p) (upd H p (.tup (Hf xs lo hi)))
def sl_tup:SlR X (Nk X.K):=by
 intro pins s σ H x v vl vu lo hi sl Q I rx hs pl pu h;obtain⟨a,xs,rfl,hx,hw,q⟩:=h;cases rx;obtain⟨its,r,ht,hz⟩:=I.tuple hx;have hlen:its.toArray.size=xs.length:=by rw[List.size_toArray];exact r.length.symm
 refine⟨"tuple",_,slot_tuple_getitem.lookup,ht.typeIs,?_⟩;refine HT.getItem_tuple_cut ht hs pl pu (by rw[hlen];exact hw) ?_ (by rw[hlen];exact hz);rw[hlen];refine⟨.ref s.heap.objs.size,_,I.laid (λb ob q=>Heap.get?_push_of_some _ q) (Nat.le_refl _) ?_,rfl,q _ (I.hok.fresh (Nat.le_refl _))⟩;exact⟨Nat.le_trans (nc xs lo hi) hz,_,(r.drop (HT.sIx xs.length 0 lo)).take (HT.sIx xs.length xs.length hi - HT.sIx xs.length 0 lo),IsTup.new _ _⟩
noncomputable def Mv(K:W.Frag):R2:=λx y H Q=>∃a b xs ys,x=.ref a/\y=.ref b/\SqT K H a xs/\SqT K H b ys/\xs≠[]/\xs.length+ys.length<=sizeLine/\
 (ys=[]->Q (.ref a) H)/\(ys≠[]->∀p,H p=none->Q (.ref p) (upd H p (.tup (xs++ys))))
def Vals.nil_iff(r:Vals xs us):us=[] ↔ xs=[]:=by
 cases r with
 |nil=>simp
 |cons _ _=>simp
def Gv:OpR X (binaryOp .Add) (Mv X.K):=by intro pins s σ H x y v u Q I rx ry h;obtain⟨a,b,xs,ys,rfl,rfl,ha,hb,hx,hz,q1,q2⟩:=h;cases rx;cases ry;obtain⟨its,r1,p1,_⟩:=I.tuple ha;obtain⟨its2,r2,p2,_⟩:=I.tuple hb;refine HT.cat_tup p1 p2 (λz=>hx (r1.nil_iff.mp z)) (λz=>⟨.ref a,H,I,rfl,q1 (r2.nil_iff.mp z)⟩) (λz=>?_) (by rw[<- r1.length,<- r2.length];exact hz);refine⟨.ref s.heap.objs.size,_,I.laid (λb ob q=>Heap.get?_push_of_some _ q) (Nat.le_refl _) ?_,rfl,q2 (λw=>z (r2.nil_iff.mpr w)) _ (I.hok.fresh (Nat.le_refl _))⟩;exact⟨by rw[List.length_append];exact hz,_,r1.append r2,IsTup.new _ _⟩
end
noncomputable def ixN(n:Nat)(i:Int):Option Nat:=if 0<=i then (if i<n then some i.toNat else none)else if -(n:Int)<=i then some (i+n).toNat else none
noncomputable def atI{α:Type}(xs:List α)(i:Int):Option α:=(ixN xs.length i).bind λj=>xs[j]?
def zQ{n:Nat}{i:Int}(h:ixN n i=some j):seqIndex? i n=some j/\j<n/\-(n:Int)<=i/\i<n:=by
 unfold ixN at h;by_cases h0:0<=i
 ·rw[if_pos h0]at h;by_cases h1:i<n;·rw[if_pos h1]at h;have e:=Option.some.inj h;exact⟨by rw[seqIndex_of h0 h1,e],by omega,by omega,h1⟩
  ·rw[if_neg h1]at h;cases h
 ·rw[if_neg h0]at h;by_cases h1 : -(n:Int)<=i;·rw[if_pos h1]at h;have e:=Option.some.inj h;exact⟨by rw[seqIndex_neg (by omega) h1,e],by omega,h1,by omega⟩
  ·rw[if_neg h1]at h;cases h
def uQ{α:Type}{xs:List α}{i:Int}{v:α}(h:atI xs i=some v):∃j,seqIndex? i xs.length=some j/\xs[j]?=some v/\j<xs.length/\-(xs.length:Int)<=i/\i<xs.length:=by
 unfold atI at h;cases e:ixN xs.length i with
 |none=>rw[e]at h;cases h
 |some j=>rw[e]at h;obtain⟨h1,h2,h3,h4⟩:=zQ e;exact⟨j,h1,h,h2,h3,h4⟩
def uB{α:Type}{xs:List α}{v:α}(h:xs[j]?=some v):atI xs (j:Int)=some v:=by
 have hj:=(List.getElem?_eq_some_iff.mp h).1;have e:ixN xs.length (j:Int)=some j:=by unfold ixN;rw[if_pos (by omega),if_pos (by omega)];simp
 unfold atI;rw[e];exact h
noncomputable def qF(b:Expr):Prop:=∀o i,subscripted b false o i=operate [o,i] (getItem o i)
noncomputable def IxR(X:Cx)(r:R2):Prop:=
 ∀(value slice:Expr)(pins:List (Addr×Obj))(s:Shared)(σ:St)(H:Hp)(x y:V)(v u:Value)(Q:VK),Inv X pins σ H s->RelV x v->RelV y u->r x y H Q->
  subscripted slice false v u=operate [v,u] (getItem v u)->wpAny (model X.prog X.w) X.A (subscriptTail value slice v u) (EP X pins σ Q) X.xe s
noncomputable def MtR(X:Cx)(id:String)(r:V->List V->Hp->VK->Prop):Prop:=
 ∀(pins:List (Addr×Obj))(s:Shared)(σ:St)(H:Hp)(x:V)(xs:List V)(v:Value)(us:List Value)(Q:VK),Inv X pins σ H s->RelV x v->Vals xs us->r x xs H Q->
  wpAny (model X.prog X.w) X.A (call (.builtin id) (v::us)) (EP X pins σ Q) X.xe s
section
variable{a b:Expr}{ta tb:TE}
def IxR.or{r r':R2}(h:IxR X r)(h':IxR X r'):IxR X (λx y H Q=>r x y H Q\/r' x y H Q):=by
 intro value slice pins s σ H x y v u Q I rx ry q hs;rcases q with q|q;·exact h value slice pins s σ H x y v u Q I rx ry q hs
 ·exact h' value slice pins s σ H x y v u Q I rx ry q hs
def FX{r:R2}(hr:IxR X r)(ha:PE X a ta)(hb:PE X b tb)(hs:qF b):PE X (.Subscript a b pos) (tOp r ta tb):=by intro pins s σ H Q I h;exact Subscript_ (Lu ha hb I h λv u s2 x y H2 I2 rx ry q=>hr a b pins s2 σ H2 x y v u Q I2 rx ry q (hs _ _))
noncomputable def Ni(K:W.Frag):R2:=λx y H Q=>∃p xs i v,x=.ref p/\y=.int i/\SqL K H p xs/\atI xs i=some v/\Q v H
noncomputable def MY(K:W.Frag):R2:=λx y H Q=>∃p xs i v,x=.ref p/\y=.int i/\SqT K H p xs/\atI xs i=some v/\Q v H
noncomputable def Nh:R2:=λx y H Q=>∃z i c,x=.str z/\y=.int i/\z.length<=sizeLine/\atI z.cps.toList i=some c/\Q (.str ⟨#[c]⟩) H
def ix_list:IxR X (Ni X.K):=by
 intro value slice pins s σ H x y v u Q I rx ry h hs;obtain⟨p,xs,i,z,rfl,rfl,hq,he,q⟩:=h;cases rx;obtain⟨t,rfl⟩:=ry;obtain⟨its,r,pl,hz⟩:=I.list hq;obtain⟨j,h1,h2,h3,h4,h5⟩:=uQ he;obtain⟨w,ew,rw'⟩:=r.get h2;have hl:=r.length;have hn:=sx;have fin:EP X pins σ Q w s:=⟨z,H,I,rw',q⟩
 by_cases h0:0<=i
 ·have hj:i.toNat=j:=by rw[seqIndex_of h0 h5]at h1;exact Option.some.inj h1
  exact item_listR pl.isList h0 (by omega) (by rw[hj];simpa using ew) fin hs
 ·have hj:(i+(its.toArray.size:Int)).toNat=j:=by rw[seqIndex_neg (by omega) h4]at h1;rw[List.size_toArray,<- hl];exact Option.some.inj h1
  exact subscriptTail_builtinR pl.isList.typeIs slot_list_getitem.lookup
   (wpAny_getItem_list_neg pl.isList (by omega) (by rw[List.size_toArray] <;> omega) (by omega) (by rw[hj];simpa using ew) ⟨rfl,fin⟩) hs
def ix_tup:IxR X (MY X.K):=by
 intro value slice pins s σ H x y v u Q I rx ry h hs;obtain⟨p,xs,i,z,rfl,rfl,hq,he,q⟩:=h;cases rx;obtain⟨t,rfl⟩:=ry;obtain⟨its,r,pl,hz⟩:=I.tuple hq;obtain⟨j,h1,h2,h3,h4,h5⟩:=uQ he;obtain⟨w,ew,rw'⟩:=r.get h2;have hl:=r.length;have hn:=sx;have fin:EP X pins σ Q w s:=⟨z,H,I,rw',q⟩
 exact subscriptTail_builtinR (x:=w) pl.typeIs slot_tuple_getitem.lookup
  (getItem_tuple pl (by omega) (by omega) (by rw[List.size_toArray,<- hl];exact h1) (by simpa using ew) ⟨rfl,fin⟩) hs
def Jk:IxR X Nh:=by
 intro value slice pins s σ H x y v u Q I rx ry h hs;obtain⟨z,i,c,rfl,rfl,hz,he,q⟩:=h;obtain⟨t,rfl⟩:=rx;obtain⟨t',rfl⟩:=ry;obtain⟨j,h1,h2,h3,h4,h5⟩:=uQ he;have hl:z.cps.toList.length=z.length:=by simp[Str.length]
 rw[hl]at h1 h4 h5;have hn:=sx;exact tail_any (typeIs_str s z t) slot_str_getitem.lookup (getItem_str (by have e1:decide (i < -(2 ^ 63:Int))=false:=decide_eq_false (by omega);have e2:decide (i ≥ 2 ^ 63)=false:=decide_eq_false (by omega);rw[e1,e2,Bool.or_false]) (by rw[h1];simpa using h2) ⟨.str ⟨#[c]⟩,H,I.tok _,⟨_,rfl⟩,q⟩) hs
noncomputable def rIx(K:W.Frag):R2:=λx y H Q=>Ni K x y H Q\/MY K x y H Q\/Nh x y H Q
def Kv:IxR X (rIx X.K):=ix_list.or (ix_tup.or Jk)
def xp(its:List Value)(n j:Nat)(u:Value):Obj.mapSeq (·.setIfInBounds j u) { cls:=.type "list",data:=.seq its.toArray n }={ cls:=.type "list",data:=.seq (its.set j u).toArray n }:=by simp[Obj.mapSeq]
def Inv.lst(I:Inv X pins σ H s)(h:H p=some (.lst xs)):
  ∃(its:List Value)(n:Nat),Vals xs its/\s.heap.get? p=some { cls:=.type "list",data:=.seq its.toArray n }/\xs.length<=sizeLine:=by
 obtain⟨z,its,n,r,e⟩:=I.hok p _ h;exact⟨its,n,r,e,z⟩
def Inv.lstUpd{ys:List V}{its':List Value}{n n':Nat}{f:Obj->Obj}(I:Inv X pins σ H s)(h:H p=some (.lst xs))(ho:s.heap.get? p=some { cls:=.type "list",data:=.seq its.toArray n })(hf:f { cls:=.type "list",data:=.seq its.toArray n }={ cls:=.type "list",data:=.seq its'.toArray n' })(r:Vals ys its')(hz:ys.length<=sizeLine)(t:Nat):
  Inv X pins σ (upd H p (.lst ys)) { s with heap:=s.heap.update p f,toks:=t }:=by
 have e:(s.heap.update p f).get? p=some { cls:=.type "list",data:=.seq its'.toArray n' }:=by rw[Heap.get?_update_self f ho (by rw[hf] <;> rfl),hf]
 refine I.write (by rw[h];trivial) (.inl rfl) (λb u hb q=>(Heap.get?_update_other _ _ (Ne.symm hb)).trans q) ⟨_,e⟩ ?_;exact⟨hz,its',n',r,e⟩
noncomputable def MK:V->V->V->Hp->(Hp->Prop)->Prop:=λo i v H Q=>∃p xs k j,o=.ref p/\i=.int k/\H p=some (.lst xs)/\ixN xs.length k=some j/\Q (upd H p (.lst (xs.set j v)))
def B1:K8 X MK:=by
 intro pins s σ H o i v ov iv u Q I ro ri rv h;obtain⟨p,xs,k,j,rfl,rfl,hp,hj,q⟩:=h;cases ro;obtain⟨t,rfl⟩:=ri;obtain⟨its,n,r,ho,hz⟩:=I.lst hp;obtain⟨h1,h2,h3,h4⟩:=zQ hj;have hl:=r.length;have hn:=sx;have I':=
  I.lstUpd hp ho (xp its n j u) (r.set rv j) (by rw[List.length_set];exact hz) s.toks;by_cases h0:0<=k
 ·have hk:k.toNat=j:=by rw[seqIndex_of h0 h4]at h1;exact Option.some.inj h1
  exact W.ki_setAt ho h0 (by omega) (by rw[List.size_toArray,<- hl];exact h4) (by rw[hk];exact⟨_,I',q⟩)
 ·have hk:(k+(its.toArray.size:Int)).toNat=j:=by rw[seqIndex_neg (by omega) h3]at h1;rw[List.size_toArray,<- hl];exact Option.some.inj h1
  exact W.ki_setBack ho (by omega) (by rw[List.size_toArray,<- hl];exact h3) (by omega) (by rw[hk];exact⟨_,I',q⟩)
def rK(lo hi:Option Int)(n:Nat):(sliceBounds lo hi none n).1=((HT.sIx n 0 lo:Nat):Int)/\(sliceBounds lo hi none n).2.1=((HT.sIx n n hi:Nat):Int)/\(sliceBounds lo hi none n).2.2=1:=by
 refine⟨?_,?_,rfl⟩
 ·cases lo with
  |none=>simp[sliceBounds,HT.sIx]
  |some i=>
   simp only[sliceBounds,HT.sIx,Option.getD_none,show(1:Int) > 0 by decide,if_true];by_cases h:i<0;·simp only[h,if_true] <;> omega
   ·simp only[h,if_false] <;> omega
 ·cases hi with
  |none=>simp[sliceBounds,HT.sIx]
  |some i=>
   simp only[sliceBounds,HT.sIx,Option.getD_none,show(1:Int) > 0 by decide,if_true];by_cases h:i<0;·simp only[h,if_true] <;> omega
   ·simp only[h,if_false] <;> omega
def pW(its:List Value)(lo hi:Option Int):slicePick its.toArray lo hi none=((its.drop (HT.sIx its.length 0 lo)).take (HT.sIx its.length its.length hi - HT.sIx its.length 0 lo)).toArray:=by obtain⟨h1,h2,h3⟩:=rK lo hi its.toArray.size;unfold slicePick;rw[h1,h2,h3];simp only[sliceRange_one,pick_run,List.size_toArray] <;> rfl
noncomputable def M2(K:W.Frag):V->Option Int->Option Int->Hp->VK->Prop:=λx lo hi H Q=>∃a xs,x=.ref a/\SqL K H a xs/\∀p,H p=none->Q (.ref p) (upd H p (.lst (Hf xs lo hi)))
def E1:SlR X (M2 X.K):=by intro pins s σ H x v vl vu lo hi sl Q I rx hs pl pu h;obtain⟨a,xs,rfl,hx,q⟩:=h;cases rx;obtain⟨its,r,ht,hz⟩:=I.list hx;have hlen:=r.length;refine⟨"list",_,slot_list_getitem.lookup,ht.isList.typeIs,?_⟩;refine wpAny_getItem_list_slice ht.isList hs pl pu .none (by simp) ?_ (by rw[List.size_toArray] <;> omega);rw[pW,<- hlen];refine⟨.ref s.heap.objs.size,_,I.laid (λb ob q=>Heap.get?_push_of_some _ q) (Nat.le_refl _) ?_,rfl,q _ (I.hok.fresh (Nat.le_refl _))⟩;exact⟨Nat.le_trans (nc xs lo hi) hz,_,0,(r.drop (HT.sIx xs.length 0 lo)).take (HT.sIx xs.length xs.length hi - HT.sIx xs.length 0 lo),Heap.get?_push_size _ rfl⟩
def sZ:lS X (.type "list") (λxs H Q=>∃p ys,xs=[.ref p]/\(SqL X.K H p ys\/SqT X.K H p ys)/\∀l,H l=none->Q (.ref l) (upd H l (.lst ys))):=by
 intro pins s σ H xs us Q I r h;obtain⟨p,ys,rfl,hq,q⟩:=h;obtain⟨u,rfl,rx⟩:=BM r;cases rx;have fin:∀(its:List Value),Vals ys its->ys.length<=sizeLine->∀(h':Heap)(c':Nat),(∀b o',s.heap.get? b=some o'->h'.get? b=some o')->
   h'.get? s.heap.objs.size=some { cls:=.type "list",dict:=none,data:=.seq its.toArray c',slots:=#[] }->EP X pins σ Q (.ref s.heap.objs.size) { s with heap:=h' }:=λits r' hz h' c' kp e=>
  ⟨.ref s.heap.objs.size,_,I.laid kp (Nat.le_refl _) (show ObjOk X.prog X.w _ h' _ (.lst ys) from⟨hz,its,c',r',e⟩),rfl,q _ (I.hok.fresh (Nat.le_refl _))⟩
 rcases hq with hq|hq;·obtain⟨its,r',pl,hz⟩:=I.list hq;have hlen:=r'.length;obtain⟨o,ho,hc,n,hd⟩:=pl.isList;exact call_list_seq p (.inl rfl) ho hc hd (λh' c' kp e=>fin its r' hz h' c' kp e) (by simp only[List.size_toArray] <;> omega)
 ·obtain⟨its,r',pl,hz⟩:=I.tuple hq;have hlen:=r'.length;obtain⟨o,ho,hc,n,hd⟩:=pl;exact call_list_seq p (.inr rfl) ho hc hd (λh' c' kp e=>fin its r' hz h' c' kp e) (by simp only[List.size_toArray] <;> omega)
def qh:lS X (.type "tuple") (λxs H Q=>∃p ys,xs=[.ref p]/\((SqL X.K H p ys/\∀l,H l=none->Q (.ref l) (upd H l (.tup ys)))\/(SqT X.K H p ys/\Q (.ref p) H))):=by
 intro pins s σ H xs us Q I r h;obtain⟨p,ys,rfl,h⟩:=h;obtain⟨u,rfl,rx⟩:=BM r;cases rx;rcases h with⟨hq,q⟩|⟨hq,q⟩
 ·obtain⟨its,r',pl,hz⟩:=I.list hq;have hlen:=r'.length;refine call_tuple_list pl.isList (λh' kp=>?_) (by simp only[List.size_toArray] <;> omega);have I1:Inv X pins σ H { s with heap:=h' }:=I.kept kp;have I2:Inv X pins σ (upd H h'.objs.size (.tup ys)) { s with heap:=h'.push { cls:=.type "tuple",data:=.seq its.toArray } }:=
   I1.laid (λb o e=>Heap.get?_push_of_some _ e) (Nat.le_refl _) (show ObjOk X.prog X.w _ _ _ (.tup ys) from⟨hz,its,r',IsTup.new _ _⟩);exact⟨.ref h'.objs.size,_,I2,rfl,q _ (I1.hok.fresh (Nat.le_refl _))⟩
 ·obtain⟨its,r',pl,hz⟩:=I.tuple hq;exact call_tuple_same pl ⟨.ref p,H,I,rfl,q⟩
noncomputable def tyV(K:W.Frag)(T:String)(x:V)(H:Hp):Prop:=match x with
 |.str _=>T="str"
 |.int _=>T="int"
 |.ref p=>(T="list"/\∃xs,SqL K H p xs)\/(T="tuple"/\∃o,K.lookup p=some o/\o.cls=.type "tuple"/\o.dict=none)\/
   (T="dict"/\((∃kvs,H p=some (.dK kvs))\/∃kvs,H p=some (.dT kvs)))\/(T="set"/\∃S n,H p=some (.set S n))
 |_=>False
def IU{T:String}{x:V}{v:Value}(I:Inv X pins σ H s)(r:RelV x v)(ty:tyV X.K T x H):
  s.TypeIs v T/\∀a,v=.ref a->∃ob,s.heap.get? a=some ob/\ob.dict=none:=by
 cases x with
 |str z=>obtain⟨t,rfl⟩:=r;cases (show T="str" from ty);exact⟨typeIs_str s z t,λ_ e=>nomatch e⟩
 |int i=>obtain⟨t,rfl⟩:=r;cases (show T="int" from ty);exact⟨typeIs_int s i t,λ_ e=>nomatch e⟩
 |ref p=>
  cases r;rcases ty with⟨rfl,xs,hq⟩|⟨rfl,o,hk,hc,hd⟩|⟨rfl,hk⟩|⟨rfl,S,n,hk⟩
  ·obtain⟨its,_,pl,_⟩:=I.list hq;refine⟨pl.isList.typeIs,λa e=>?_⟩;cases e;obtain⟨o,n,e,c,hd,_⟩:=pl;exact⟨o,e,hd⟩
  ·refine⟨⟨o,I.kIn p o hk,hc⟩,λa e=>?_⟩;cases e;exact⟨o,I.kIn _ o hk,hd⟩
  ·have z:∃o,s.heap.get? p=some o/\o.ExactDict:=by
    rcases hk with⟨kvs,hk⟩|⟨kvs,hk⟩;·obtain⟨_,_,_,_,o,_,_,e,ex,_⟩:=I.hok p _ hk;exact⟨o,e,ex⟩
    ·obtain⟨_,_,_,_,o,_,_,e,ex,_⟩:=I.hok p _ hk;exact⟨o,e,ex⟩
   obtain⟨o,e,ex⟩:=z;refine⟨⟨o,e,ex.1⟩,λa e2=>?_⟩;cases e2;exact⟨o,e,ex.2.1⟩
  ·obtain⟨o,_,_,_,e,ex,_⟩:=I.hok p _ hk;refine⟨⟨o,e,ex.1⟩,λa e2=>?_⟩;cases e2;exact⟨o,e,ex.2.1⟩
 |_=>exact False.elim ty
noncomputable def tBM(K:W.Frag)(T:String)(r:V->List V->Hp->VK->Prop)(to:TE)(t:TA):TE:=λσ H Q=>to σ H λx H1=>tyV K T x H1/\t σ H1 λxs H2=>r x xs H2 Q
variable{o e:Expr}{to:TE}{t:TA}{name:Str}{apos cpos:Pos}{T id:String}{r:V->List V->Hp->VK->Prop}
def Ba(pa:PlainAttrs T)(slot:Slot T name id)(hty:typeOf (.builtin id)=pure (.type "method_descriptor"))(hm:MtR X id r)(ho:PE X o to)(ha:PA X (e::es) t)(hbase:attributeBase o name X.env (eval o X.env)=eval o X.env:=by rfl)(hfew:((backTo cpos (starEach (e::es) X.env)).all (λx=>!x.1) && (backToKw cpos (keywordEach [] X.env)).all (λx=>x.1.isSome)
 && decide ((e::es).length+([]:List Keyword).length+(if ([]:List Keyword).isEmpty then 0 else 1)<30))=true:=by rfl)(hline:(apos.endLine==cpos.line)=true:=by rfl)(hs:starEach (e::es) X.env=(false,eval e X.env)::starEach es X.env:=by rfl)(hplain:(backTo cpos (starEach es X.env)).any (·.1)=false:=by rfl):
  PE X (.Call (.Attribute o name apos) (e::es) [] cpos) (tBM X.K T r to t):=by
 intro pins s σ H Q I h;refine wpAny_Call_method_late hbase hfew hline rfl (thn (ho pins s σ H _ I h) λv s1 ⟨x,H1,I1,r1,ty,q1⟩=>?_);obtain⟨h1,h2⟩:=IU I1 r1 ty;refine⟨T,id,pa,slot,hty,h1,h2,?_⟩;have hA:=ha cpos pins s1 σ H1 _ I1 q1;rw[hs]at hA⊢;refine Calls.callWith_builtin (by show(false || (backTo cpos (starEach es X.env)).any (·.1))=false;rw[hplain] <;> rfl) (Calls.evalArgs_plain ?_);exact thn hA λus s2 ⟨vs,H2,I2,r2,q2⟩=>hm pins s2 σ H2 x vs v us Q I2 r1 r2 q2
/- xs.append(e),list.index on a module's tuple .. are MtR facts of 06m -/
end
noncomputable def MtM(X:Cx)(id:String)(r:V->List V->Hp->VK->Prop):Prop:=
 ∀(pins:List (Addr×Obj))(s:Shared)(σ:St)(H:Hp)(x:V)(xs:List V)(v:Value)(us:List Value)(Q:VK),Inv X pins σ H s->RelV x v->Vals xs us->r x xs H Q->
  wpAny (model X.prog X.w) X.A (call (.builtin id) (v::us)) (EP X pins σ Q) X.xe s
def Vals.one:∀{x:V}{us:List Value},Vals [x] us->∃u,us=[u]/\RelV x u
 |_,_,.cons r .nil=>⟨_,rfl,r⟩
def Vals.two:∀{x y:V}{us:List Value},Vals [x,y] us->∃u v,us=[u,v]/\RelV x u/\RelV y v
 |_,_,_,.cons r (.cons q .nil)=>⟨_,_,rfl,r,q⟩
theorem Vals.rep(h:Vals xs us):∀k:Nat,Vals (List.replicate k xs).flatten (List.replicate k us).flatten
 | 0=>.nil
 |k+1=>by exact Vals.append h (Vals.rep h k)
theorem jI(its:List Value):∀(k:Nat)(acc:List Value),
  List.foldl (λx1 x2=>x1++x2) acc.toArray (List.replicate k its.toArray)=(acc++(List.replicate k its).flatten).toArray
 | 0,acc=>by simp
 |k+1,acc=>by
  have e:acc.toArray++its.toArray=(acc++its).toArray:=by simp
  have e2:(acc++its)++(List.replicate k its).flatten=acc++(List.replicate (k+1) its).flatten:=by rw[List.replicate_succ,List.flatten_cons,List.append_assoc]
  rw[<- e2,<- jI its k (acc++its),<- e,List.replicate_succ,List.foldl_cons]
section
variable{l:Addr}{ys zs:List V}
def Inv.lset{its':List Value}{n:Nat}{f:Array Value->Array Value}{t':Nat}(I:Inv X pins σ H s)(hH:H l=some (.lst xs))(e:s.heap.get? l=some { cls:=.type "list",data:=.seq its.toArray n })(hf:f its.toArray=its'.toArray)(hv:Vals ys its')(hz:ys.length<=sizeLine):
  Inv X pins σ (upd H l (.lst ys)) { s with heap:=s.heap.update l (Obj.mapSeq f),toks:=t' }:=by
 have q:=PySem.IsL.update e f;rw[hf]at q;refine I.write (x:=l) (by rw[hH];exact trivial) (.inl rfl) (λb' u hb hu=>(Heap.get?_update_other s.heap (Obj.mapSeq f) (Ne.symm hb)).trans hu) ⟨_,q⟩ ?_;exact⟨hz,its',_,hv,q⟩
def Inv.lnew{t':Nat}(I:Inv X pins σ H s)(hv:Vals ys its)(hz:ys.length<=sizeLine):
  Inv X pins σ (upd H s.heap.objs.size (.lst ys)) { s with heap:=s.heap.push { cls:=.type "list",data:=.seq its.toArray },toks:=t' }:=
 I.laid (λ_ _ q=>Heap.get?_push_of_some _ q) (Nat.le_refl _) ⟨hz,its,0,hv,Heap.get?_push_size _ rfl⟩
def Inv.fresh(I:Inv X pins σ H s):H s.heap.objs.size=none:=I.hok.fresh (Nat.le_refl _)
def Inv.lstM(I:Inv X pins σ H s)(hH:H l=some (.lst xs)):xs.length<=sizeLine/\∃(its:List Value)(n:Nat),Vals xs its/\xs.length=its.length/\s.heap.get? l=some { cls:=.type "list",data:=.seq its.toArray n }:=by obtain⟨z,its,n,r,e⟩:=I.hok l _ hH;exact⟨z,its,n,r,r.length,e⟩
def qj{n:Nat}(h:n<=sizeLine):Builtin.List.listTooLong n=false:=by exact decide_eq_false (by omega)
end
section
noncomputable def FT:V->List V->Hp->VK->Prop:=λx vs H Q=>∃l xs y,x=.ref l/\vs=[y]/\H l=some (.lst xs)/\xs.length<sizeLine/\Q .non (upd H l (.lst (xs++[y])))
theorem mw:MtM X "list.append" FT:=by intro pins s σ H x vs v us Q I rx rv h;obtain⟨l,xs,y,rfl,rfl,hH,hz,q⟩:=h;cases rx;obtain⟨u,rfl,ru⟩:=rv.one;obtain⟨z,its,n,r,hl,e⟩:=I.lstM hH;refine call_meets F.slot_list_append ⟨_,e,rfl⟩ F.entry_list_append (F.args_list_append_2 _ _) (PySem.list_append l its.toArray n u (by rw[List.size_toArray];omega)) ⟨e,?_⟩;refine⟨.non,_,I.lset hH e (by simp) (r.append (.cons ru .nil)) ?_,rfl,q⟩;rw[List.length_append,List.length_singleton];omega
noncomputable def Fc:V->List V->Hp->VK->Prop:=λx vs H Q=>∃l b xs zs,x=.ref l/\vs=[.ref b]/\H l=some (.lst xs)/\H b=some (.lst zs)/\xs.length+zs.length<=sizeLine/\Q .non (upd H l (.lst (xs++zs)))
theorem zW:MtM X "list.extend" Fc:=by
 intro pins s σ H x vs v us Q I rx rv h;obtain⟨l,b,xs,zs,rfl,rfl,hH,hB,hz,q⟩:=h;cases rx;obtain⟨u,rfl,ru⟩:=rv.one;cases ru;obtain⟨z,its,n,r,hl,e⟩:=I.lstM hH;obtain⟨z2,its2,n2,r2,hl2,e2⟩:=I.lstM hB;have hsz:its.toArray.size+its2.toArray.size<=sizeLine:=by rw[List.size_toArray,List.size_toArray];omega
 have hlong : ¬ (!its.toArray.isEmpty && Builtin.List.listTooLong (its.toArray.size+its2.toArray.size))=true:=by rw[qj hsz,Bool.and_false];exact Bool.false_ne_true
 refine call_meets F.slot_list_extend ⟨_,e,rfl⟩ F.entry_list_extend (F.args_list_extend_2 _ _)
  (AutoSeq1.list_extend_list_list_0 l its.toArray n b its2.toArray n2 hlong (by rw[List.size_toArray];omega) (by omega)) ⟨e,e2,?_⟩;refine⟨.non,_,I.lset hH e (by simp) (r.append r2) ?_,rfl,q⟩;rw[List.length_append];omega
noncomputable def MV:R2:=λx y H Q=>∃l b xs zs,x=.ref l/\y=.ref b/\H l=some (.lst xs)/\H b=some (.lst zs)/\xs.length+zs.length<=sizeLine/\∀p,H p=none->Q (.ref p) (upd H p (.lst (xs++zs)))
def op_cat:OpR X (binaryOp .Add) MV:=by
 intro pins s σ H x y v u Q I rx ry h;obtain⟨l,b,xs,zs,rfl,rfl,hH,hB,hz,q⟩:=h;cases rx;cases ry;obtain⟨z,its,n,r,hl,e⟩:=I.lstM hH;obtain⟨z2,its2,n2,r2,hl2,e2⟩:=I.lstM hB;refine PySem.P.add_list e e2 ?_ (by rw[List.size_toArray,List.size_toArray];omega);have ea:its.toArray++its2.toArray=(its++its2).toArray:=by simp
 rw[ea];exact⟨.ref _,_,I.lnew (t':=s.toks) (r.append r2) (by rw[List.length_append];omega),rfl,q _ I.fresh⟩
noncomputable def MU:R2:=λx y H Q=>∃l k xs,x=.ref l/\y=.int k/\H l=some (.lst xs)/\-(2 ^ 63)<=k/\k<2 ^ 63/\xs.length * k.toNat<=sizeLine/\
 ∀p,H p=none->Q (.ref p) (upd H p (.lst (List.replicate k.toNat xs).flatten))
def ql{α:Type}(xs:List α)(k:Nat):(List.replicate k xs).flatten.length=k * xs.length:=by
 induction k with
 |zero=>simp
 |succ k ih=>rw[List.replicate_succ,List.flatten_cons,List.length_append,ih,Nat.succ_mul,Nat.add_comm]
theorem IA:OpR X (binaryOp .Mult) MU:=by
 intro pins s σ H x y v u Q I rx ry h;obtain⟨l,k,xs,rfl,rfl,hH,h1,h2,hz,q⟩:=h;cases rx;obtain⟨t,rfl⟩:=ry;obtain⟨z,its,n,r,hl,e⟩:=I.lstM hH;have hlen:its.toArray.size * k.toNat<=sizeLine:=by rw[List.size_toArray,<- hl];exact hz
 have hcap : ¬ its.toArray.size * k.toNat > (2 ^ 63 - 1) / 8:=by
  have:(sizeLine:Nat)<=(2 ^ 63 - 1) / 8:=by decide
  omega
 have hfit : ¬ (!Builtin.List.listFitsIndex k)=true:=by rw[fitsIndex_both h1 h2];exact Bool.false_ne_true
 have hlong : ¬ Builtin.List.listTooLong (its.toArray.size * k.toNat)=true:=by rw[qj hlen];exact Bool.false_ne_true
 have hnew:List.foldl (λx1 x2=>x1++x2) #[] (List.replicate (if its.toArray.isEmpty=true then 0 else k.toNat) its.toArray)=(List.replicate k.toNat its).flatten.toArray:=by
  have f0:∀m:Nat,List.foldl (λx1 x2=>x1++x2) #[] (List.replicate m its.toArray)=(List.replicate m its).flatten.toArray:=λm=>by have:=jI its m [];rw[List.nil_append]at this;exact this
  rw[f0];cases its with
  |nil=>simp
  |cons a r'=>rw[if_neg (by simp)]
 refine wpAny_binaryOp_repeat_ref (T:="list") (U:="int") (by decide) ⟨_,e,rfl⟩ (λs'=>typeIs_int s' k t) noFill_list_mul F.fills_int_mul F.slot_int_rmul repeat_list F.slot_int_index.lookup
  (call_meets F.slot_int_rmul (typeIs_int s k t) F.entry_int_rmul (F.args_int_rmul_2 _ _) (int___rmul___int_list k t l its.toArray n)
   ⟨e,rfl,⟨_,e,rfl⟩,call_meets F.slot_list_mul ⟨_,e,rfl⟩ F.entry_list_mul (F.args_list_mul_2 _ _) (AutoListH.list___mul___list_int_3 l its.toArray n k t hfit hcap hlong) ⟨e,?_⟩⟩);rw[hnew];exact⟨.ref _,_,I.lnew (t':=s.toks) (r.rep k.toNat) (by rw[ql,Nat.mul_comm];exact hz),rfl,q _ I.fresh⟩
end
end L2
namespace Att
open PySem PySem.W PySem.Calls PyProof.Rows
def lU{P:Params}:∀(ns:List Int)(vs:List Value),WellAll P h vs (ns.map WData.int)->IntsAre vs ns:=by
 intro ns;induction ns with
 |nil=>intro vs w;cases w;exact .nil
 |cons n ns ih=>
  intro vs w;cases w with
  |cons a b=>cases a;exact .cons _ _ (ih _ b)
def AK{l:OpenLaw}{n:Nat}(hn:l.most=some n){P:Params}{args:List WData}{vals:List Value}(hpre:l.row.toRowW.claim.pre args=true)(hwl:WellAll P h vals args):
  ∃a vs ns,vals=[Value.ref a]/\args=[WData.list (ns.map WData.int)]/\h.get? a=some { cls:=.type "list",data:=.seq vs.toArray }/\IntsAre vs ns/\ns.length<=n:=by
 have hsh:=(pre_splitW hpre).1;have hc:l.pre.holds [] { args:=args }=true:=(pre_splitW hpre).2;obtain⟨d,r,rfl,h1,h2⟩:=hasAllW_cons hsh;obtain rfl:=hasAllW_nil h2;obtain⟨xs,rfl,h3⟩:=hasW_list h1;obtain⟨ns,rfl⟩:=items_int h3;have hlen:ns.length<=n:=by
  have h4:(WTm.not (.lt (.lit (.int (n:Int))) (.len (.arg 0)))).holds [] { args:=[.list (ns.map .int)] }=true:=by have h4:=(holds_andW hc).1;rw[hn]at h4;exact h4
  have h5:=condW_of h4 (w_not (w_lt w_lit (w_len_list (w_arg rfl))))
  first
   | (rw[decide_eq_true q']at h5;exact absurd h5 (by decide))
   | (simp at h5;omega)
 cases hwl with
 |cons w1 w2=>
  cases w2;cases w1 with
  |list ho hall=>exact⟨_,_,ns,rfl,rfl,ho,lU ns _ hall,hlen⟩
def AM(l:OpenLaw)(args:List WData):l.row.toRowW.claim.post args (.bool true) args=true:=
 postW_of
  (show WShape.has [] (.bool true) .bool=true by first|rfl|decide|simp[WShape.has,WShape.arms,WShape.armsAll])
  (show(WTm.eq .res (.lit (.bool true))).value [] { args:=args,res:=some (.bool true),after:=args }=some (.bool (true==true)) from w_eq_bool (w_res rfl) w_lit) rfl
def attach_call{l:OpenLaw}{n:Nat}{q:Program}{XP:(Str->Option Value)->Heap->Prop}{YP:World->Heap->Prop}{d:DefRec}(hn:l.most=some n)(hdf:d.params.defaults=[])(call:∀(w:World)(s₀ s₁:Shared)(mg mb:Str->Option Value)(fa:Addr)(o:Obj)(pm cd doc:Value)(a:Addr)(vs:List Value)(ns:List Int),
 Ground q loose [] XP w s₀ mg mb s₁.heap->YP w s₁.heap->
 s₁.heap.get? fa=some o->o.data=.func (docDef d.name d.params d.body d.scope pm cd doc)->s₁.heap.CodeRec cd d.name->mg d.name=some (.ref fa)->
 s₁.heap.get? a=some { cls:=.type "list",data:=.seq vs.toArray }->IntsAre vs ns->ns.length<=n->s₁.gens = #[]->
 codeAny (model l.prog w) callerA (.call (.ref fa) ⟨[.ref a],[]⟩) (λr s'=>r=.ok (.ret (.bool true))/\OldK s₁.heap s'.heap/\s'.os=s₁.os/\AllBare s'.gens) s₁):
  WalkO q loose XP YP l.row.toRowW d [] (λf vs=>PySem.call f vs):=by
 intro w s₀ s₁ mg mb G Y fa o pm cd doc dV kV ho hd hcd hD hmg hg args vals as hpre hlay hrd hwl hlo;obtain rfl:dV=.none:=Dflts.none hD hdf;obtain rfl:kV=.none:=Dflts.noKw hD;obtain⟨a,vs,ns,rfl,rfl,hobj,hints,hlen⟩:=AK hn hpre hwl;refine enter_call (codeAny_mono (call w s₀ s₁ mg mb fa o pm cd doc a vs ns G Y ho (fd_plain hd) hcd hmg hobj hints hlen hg) λr s' hq=>?_);obtain⟨rfl,h2,h3,h4⟩:=hq;exact⟨.inl ⟨.bool true,.bool true,[],rfl,λ_=>rfl,.bool true,AM l _,λ_=>⟨List.Pairwise.nil,λ_ hm=>(nomatch hm)⟩⟩,h2,h3,h4⟩
section
variable{prog:Program}{w:World}{A:Around}{K:Frag}
noncomputable def Nb(h:Heap)(L d:Addr):List (Addr×Obj):=(List.range h.objs.size).filterMap λa=>if a=L\/a=d then none else (h.get? a).map λo=>(a,o)
end
end Att
namespace L2
open PySem PySem.Spec PyProof.Rows
theorem sh:∀{vs:List Value}{ns:List Int},IntsAre vs ns->Vals (ns.map V.int) vs
 |_,_,.nil=>.nil
 |_,_,.cons n t h=>.cons ⟨t,rfl⟩ (sh h)
noncomputable def Mq(H:Hp):Prop:=∀b,H b=none\/∃o xs,H b=some (.frz o (.lst xs))
def BE{w:World}{K:W.Frag}{mg mb:Str->Option Value}{fa:Addr}{sp:Sp}{s₁:Shared}{vs:List Value}{ns:List Int}(KX:K.In s₁.heap)(hns:s₁.heap.Ns mainGlobals mg)(hb:s₁.heap.Ns builtinsNs mb)(hbb:∀x:Str,x≠"__name__"->mb x=bootBuiltins x)(hlim:s₁.heap.NoLimit)(hg:s₁.gens = #[])(ha:s₁.heap.get? a=some { cls:=.type "list",data:=.seq vs.toArray })(hi:IntsAre vs ns)(hl:ns.length<=sizeLine)(hr:Room k callerA)(F:∀base:Heap,K.In base->base.Ns mainGlobals mg->FnOk P w K mg base CX k fa fd [x] sp)(hbind:∀(s:Shared)(u:Value),BindsTo s fd ⟨[u],[]⟩ [(x,u)])(hsp:∀H:Hp,Mq H->SqL K H a (ns.map V.int)->sp [.ref a] H (λv _=>v=.bl true) λ_ _ _=>False)(hCX:∀H e s',CX [] H s₁ (λ_ _ _=>False) e s'->False):
  codeAny (model P w) callerA (.call (.ref fa) ⟨[.ref a],[]⟩) (λr s'=>r=.ok (.ret (.bool true))/\OldK s₁.heap s'.heap/\s'.os=s₁.os/\AllBare s'.gens) s₁:=by
 have rv:=sh hi;have lenV:=hi.length;have core:∀H:Hp,Mq H->SqL K H a (ns.map V.int)->HOk P w H s₁.heap->(∀b,H b≠none->b=a)->(H a≠none->K.lookup a=none)->
   codeAny (model P w) callerA (.call (.ref fa) ⟨[.ref a],[]⟩) (λr s'=>r=.ok (.ret (.bool true))/\OldK s₁.heap s'.heap/\s'.os=s₁.os/\AllBare s'.gens) s₁:=by
  intro H hO hS hok hA hK;have base_of:∀{b:Addr}{o:Obj},s₁.heap.get? b=some o->H b=none->(Bk s₁.heap H).get? b=some o:=λe n=>CS e n;have noA:∀{b:Addr}{o:Obj}{es:Array DictEntry}{ep:Nat},s₁.heap.get? b=some o->o.data=.dict es ep->H b=none:=λ{b o es ep} e d=>by
   cases q:H b with
   |none=>rfl
   |some u=>have e':=hA b (by rw[q];simp);subst e';rw[ha]at e;cases e;have d':=d;cases d'
  have nsK:∀{b:Addr}{m:Str->Option Value},s₁.heap.Ns b m->(Bk s₁.heap H).Ns b m:=λ{b m} ⟨o,es,ep,e,d,r⟩=>⟨o,es,ep,base_of e (noA e d),d,r⟩
  have hKb:K.In (Bk s₁.heap H):=λb o e=>base_of (KX b o e) (by
   cases q:H b with
   |none=>rfl
   |some u=>have e':=hA b (by rw[q];simp);subst e';rw[hK (by rw[q];simp)]at e;cases e);have hM:Mod K mg (Bk s₁.heap H):=⟨hKb,nsK hns,⟨mb,nsK hb,hbb⟩,let⟨mc,h1,h2⟩:=hlim;⟨mc,nsK h1,h2⟩⟩
  have e0:Env0 P w K mg (Bk s₁.heap H) callerA [] s₁ H:=⟨rfl,hM,λb o e=>Gi e,Nat.le_of_eq (Av _ _),trivial,λb hb=>absurd (show b∈([]:List Addr) from hb) (by simp),hok,.of_eq hg,Al _ _⟩
  refine codeAny_mono ((F _ hKb (nsK hns)).run callerA [] s₁ H ⟨[.ref a],[]⟩ [.ref a] [.ref a] _ _ hr e0 (hbind s₁ (.ref a)) (.cons rfl .nil) (hsp H hO hS)) λr s' h=>?_;cases r with
  |error e=>exact(hCX H e s' h).elim
  |ok fl=>
   cases fl with
   |next=>exact False.elim h
   |brk=>exact False.elim h
   |cont=>exact False.elim h
   |ret u=>
    obtain⟨v,H',os,bare,un,hok',r',q⟩:=h;have q':=q;subst q';obtain rfl:u=Value.bool true:=r';refine⟨rfl,OldK.of_keep λb o e=>?_,os,bare⟩;cases q:H b with
    |none=>exact un.keep b o e q (by intro z;exact absurd (show b∈([]:List Addr) from z) (by simp)) (by simp)
    |some u=>
     rcases hO b with z|⟨ob,xs,z⟩;·rw[q]at z;cases z
     ·have z2:=un.frzs b ob _ z;obtain⟨e1,_⟩:=hok b _ z;obtain⟨e2,_⟩:=hok' b _ z2;rw[e]at e1;cases e1;exact e2
 cases hk:K.lookup a with
 |some o=>have e:=KX a o hk;rw[ha]at e;cases e;refine core (λ_=>none) (λ_=>.inl rfl) (.inr ⟨_,vs.toArray,_,hk,rfl,rfl,rfl,by rw[List.size_toArray,lenV];exact hl,by simpa using rv⟩) (λb u z=>by have z':=z;cases z') (λb z=>absurd rfl z) λz=>absurd rfl z
 |none=>
  refine core (λb=>if b=a then some (.frz { cls:=.type "list",data:=.seq vs.toArray } (.lst (ns.map V.int)))else none) (λb=>?_) (.inl (.inr ⟨{ cls:=.type "list",data:=.seq vs.toArray },if_pos rfl⟩)) (λb u z=>?_) (λb z=>?_) λ_=>hk
  ·by_cases hb:b=a;·exact .inr ⟨_,_,if_pos hb⟩
   ·exact .inl (if_neg hb)
  ·by_cases hb:b=a;·have z':=(if_pos hb).symm.trans z;cases z';subst hb;exact⟨ha,by rw[List.length_map];exact hl,vs,_,rv,ha⟩
   ·have z':=(if_neg hb).symm.trans z;cases z'
  ·by_cases hb:b=a;·exact hb
   ·exact absurd (if_neg hb) z
noncomputable abbrev KOf{K:W.Frag}{h:Heap}(_:K.In h):W.Frag:=K
def zj{l:W.OpenLaw}{n:Nat}{q:Program}{XP:(Str->Option Value)->Heap->Prop}{YP:World->Heap->Prop}{d:DefRec}{K:Params->W.Frag}{CX:World->CXT}{sp:World->Sp}(hn:l.most=some n)(hn2:n<=sizeLine)(hdf:d.params.defaults=[])(hr:Room k callerA)(hY:∀(w:World)(h:Heap),YP w h->(K w.params).In h)(F:∀(w:World)(mg:Str->Option Value)(fa:Addr)(h:Heap),(K w.params).In h->h.Ns mainGlobals mg->mg d.name=some (.ref fa)->
 ∃fd:FuncData,(∀(s:Shared)(u:Value),BindsTo s fd ⟨[u],[]⟩ [(x,u)])/\
 ∀base:Heap,(K w.params).In base->base.Ns mainGlobals mg->FnOk l.prog w (K w.params) mg base (CX w) k fa fd [x] (sp w))(hsp:∀(w:World)(H:Hp)(a:Addr)(ns:List Int),ns.length<=n->Mq H->SqL (K w.params) H a (ns.map V.int)->sp w [.ref a] H (λv _=>v=.bl true) λ_ _ _=>False)(hCX:∀(w:World)(H:Hp)(s:Shared)(e:Value)(s':Shared),CX w [] H s (λ_ _ _=>False) e s'->False):
  W.WalkO q loose XP YP l.row.toRowW d [] (λf vs=>PySem.call f vs):=by
 refine Att.attach_call hn hdf λw s₀ s₁ mg mb fa o pm cd doc a vs ns G Y ho hd hcd hmg hobj hints hlen hg=>?_;have KX:=hY w _ Y;obtain⟨fd,hb,hF⟩:=F w mg fa _ KX G.T.g hmg;exact BE KX G.T.g G.T.b G.T.builtins G.T.nolimit hg hobj hints (Nat.le_trans hlen hn2) hr hF hb (λH hO hS=>hsp w H a ns hlen hO hS) λH e s'=>hCX w H s₁ e s'
end L2
/- THE LAST THEOREM (shape;LID,My.* are yours):
  My.Adr: a structure of the addresses that your layer names (classes,functions);My.Txt K t: a structure (Prop) of the equations over K;
  My.txt_mk:{K} {implicit addresses ..} (e1:nsIn K mainGlobals "law"=some (some (.ref f))) (e2:K.lookup f=some ⟨oc,od,.func (fnOf "law" "law" params body scope dV kV doc pm an cdv ct),sl⟩) (e3:codeIn K cdv "law"=true) .. : ∃ t,My.Txt K t
set_option maxRecDepth 100000 in
set_option maxHeartbeats 0 in
def PySem.Challenge.cw_LID_holds : PySem.Challenge.rw_LID.Holds := by
 w_on;o_law;k_head;(case hw=>w_witness2)
 k_fill
 refine L2.zj (l:=PySem.Challenge.rw_LID) (n:=63) (k:=40) (x:="script") (CX:=λw=>..) (sp:=λ_=>My.sp_law) rfl (by decide) rfl ⟨rfl,by decide,by decide⟩ (λw h Y=>PySem.W.kIn_of Y) ?F ?S ?C
 case F=>
  intro w mg fa h KX G hmg;have T:∃t,My.Txt (L2.KOf KX) t:=by
   dsimp only[L2.KOf]
   refine' My.txt_mk ?e1 ?e2 ?e3 ..
   (case e1=>PySem.W.k_is)
   (case e2=>PySem.W.k_is)
   ..
  obtain⟨t,T⟩:=T;have e0:=hmg.symm.trans (PySem.W.mg_of KX G T.law);cases e0;exact⟨_,λs u=>.of_eq rfl,λbase kb nb=>My.law_fn T kb nb⟩
 case S=>exact λw H a ns hl hO hS=>..
 case C=>exact ..
(the tactic k_is has no namespace: write k_is) -/
namespace L2
open PySem PySem.Spec PyProof.Rows
noncomputable def bt(s:Stmt)(j:Nat):Stmt:=match s with
 |.ClassDef _ _ _ body _ _ _ _ _ _ _=>body.getD j (.Pass ⟨0,0,0,0⟩)
 |_=>.Pass ⟨0,0,0,0⟩
noncomputable def eO(s:Stmt):Arguments:=match s with
 |.FunctionDef _ a _ _ _ _ _ _ _ _=>a
 |_=>{ posonlyargs:=[],args:=[],vararg:=none,kwonlyargs:=[],kw_defaults:=[],kwarg:=none,defaults:=[] }
noncomputable def aZ(s:Stmt):List Stmt:=match s with
 |.FunctionDef _ _ b _ _ _ _ _ _ _=>b
 |_=>[]
noncomputable def ah(s:Stmt):Scope:=match s with
 |.FunctionDef _ _ _ _ _ _ sc _ _ _=>sc
 |_=>{ kind:=.function,names:=[],isGenerator:=false,isCoroutine:=false }
structure Fun(K:PySem.W.Frag)(x qual:Str)(st:Stmt)(f:Addr)(fd:FuncData):Prop where
 ex:∃(oc:Value)(od:Option Addr)(kV doc pm:Value)(an:Option Addr)(cdv ct:Value)(osl:Array (Option Value)),
  fd=PySem.W.fnOf x qual (eO st) (aZ st) (ah st) .none kV doc pm an cdv ct/\K.lookup f=some ⟨oc,od,.func fd,osl⟩/\PySem.W.codeIn K cdv qual=true
 kp:PySem.W.keepIn K (.ref f)=true
section
variable{w:World}{K:PySem.W.Frag}{mg:Str->Option Value}{base:Heap}
def Fun.binds(F:Fun K x qual st f fd)(h:∀(kV doc pm:Value)(an:Option Addr)(cdv ct:Value)(us:List Value),us.length=ps.length->bindArgs (PySem.W.fnOf x qual (eO st) (aZ st) (ah st) .none kV doc pm an cdv ct) ⟨us,[]⟩=pure (ps.zip us)):Binds K fd ps []:=by
 obtain⟨oc,od,kV,doc,pm,an,cdv,ct,osl,rfl,lk,hcd⟩:=F.ex;exact .all (h kV doc pm an cdv ct)
def zi{kV doc pm ct:Value}(l:K.lookup f=some ⟨oc,od,.func (PySem.W.fnOf x qual (eO st) (aZ st) (ah st) .none kV doc pm an cdv ct),osl⟩)(c:PySem.W.codeIn K cdv qual=true)(k:PySem.W.keepIn K (.ref f)=true):Fun K x qual st f (PySem.W.fnOf x qual (eO st) (aZ st) (ah st) .none kV doc pm an cdv ct):=⟨⟨oc,od,kV,doc,pm,an,cdv,ct,osl,rfl,l,c⟩,k⟩
end
noncomputable def Same(H H':Hp):Prop:=∀b o,H b=some o->H' b=some o
def Same.refl(H:Hp):Same H H:=λ_ _ h=>h
def Same.trans{H1 H2:Hp}(a:Same H H1)(b:Same H1 H2):Same H H2:=λc o h=>b c o (a c o h)
def Same.free(e:Same H H'){l:Addr}(h:H' l=Option.none):H l=Option.none:=by
 cases q:H l with
 |none=>rfl
 |some o=>rw[e l o q]at h;cases h
def Same.seq{K:PySem.W.Frag}(e:Same H H')(h:SqL K H a xs):SqL K H' a xs:=by
 rcases h with (h|⟨o,h⟩)|h;·exact .inl (.inl (e _ _ h))
 ·exact .inl (.inr ⟨o,e _ _ h⟩)
 ·exact .inr h
end L2
namespace L2
open PySem PySem.Spec PyProof.Rows
open PySem.MeetsSeq PySem.MeetsSeq2 PySem.MeetsSeq3
section
variable{prog:Program}{w:World}{A:Around}
theorem F6{b:Bool}{Q:Int->Shared->Prop}(h:Q (if b then 1 else 0) { s with toks:=s.toks+1 }):wpAny (model prog w) A (pyHash (.bool b)) Q E s:=by
 have t:s.TypeIs (.bool b) "bool":=rfl;refine wpAny_bind (wpAny_pure ?_);refine wpAny_bind (wpAny_specialOf t F.slot_bool_hash.lookup ?_);refine wpAny_bind (wpAny_specialOf t F.slot_bool_hash.lookup ?_);refine wpAny_bind (wpAny_callSpecialIfBoundUnlessNone?_slot t F.slot_bool_hash (wpAny_call_entry F.slot_bool_hash t F.entry_int_hash ?_ (F.args_int_hash_1 _)));cases b
 ·wp_walk
  exact⟨.int 0 _,rfl,wpAny_pure h⟩
 ·wp_walk
  exact⟨.int 1 _,rfl,wpAny_pure h⟩
noncomputable def rN(prog:Program)(w:World):PySem.KeyKind prog w Bool where
 is:=λk v=>match v with
  |.bool b=>b==k
  |_=>false
 hash:=λk=>if k then 1 else 0
 inj:=λv a b ha hb=>by cases v <;> simp_all
 byValue:=λk v h=>by cases v <;> simp_all[carriedByValue]
 pyHash:=λ{A E s k v Q} hv h=>by cases v <;> simp_all;exact F6 h
 eqBool:=λ{A E s a b u v Q} hu hv h=>by
  cases u <;> simp_all;cases v <;> simp_all;have e:decide (a=b)=(a==b):=by cases a <;> cases b <;> rfl
  rw[e]at h;exact PySem.SeqAt.EqAt.bool_bool a b prog w E Q h
 «strs»:=λk x t v h=>by simp at h
end
noncomputable abbrev DX:=List (List Bool×Addr×V)
noncomputable abbrev DU:=List (List Bool×Addr×Value)
noncomputable def sF(bs:List Bool):Int:=reduceHash (Builtin.Tuple.tupleHashOf (bs.map λk=>if k then 1 else 0))
noncomputable abbrev DRel:DX->DU->Prop:=Paired λp q=>p.1=q.1/\p.2.1=q.2.1/\RelV p.2.2 q.2.2
noncomputable def E5(a:Addr)(o:Obj)(xs:DX):Heap->Prop:=λh=>h.get? a=some o/\xs.length<=sizeLine/\(a==sysModules)=false/\o.ExactDict/\∃us:DU,DRel xs us/\
 ∃es ep,o.data=.dict es ep/\es.toList=us.map (λx=>⟨sF x.1,.ref x.2.1,x.2.2⟩)/\(us.map (·.1)).Nodup
noncomputable def DctO(a:Addr)(o:Obj)(xs:DX):HO:=.ext (E5 a o xs)
def DctO.ok{w:World}{o:Obj}{xs:DX}(d:E5 a o xs h):ObjOk P w H h a (DctO a o xs):=
 ⟨d,⟨o,d.1⟩,λ_ _ p st=>⟨st o p.1,p.2⟩⟩
noncomputable def iG(K:PySem.W.Frag)(H:Hp)(xs:DX):Prop:=∀x∈xs,SqT K H x.2.1 (x.1.map V.bl)
noncomputable def nR(xs:DX)(k:List Bool):Option V:=(xs.find? λx=>decide (x.1=k)).map (·.2.2)
theorem wk{P:Program}{w:World}:∀{bs:List Bool}{us:List Value},Vals (bs.map V.bl) us->ItemsAre (rN P w) bs us
 | [],_,r=>by rw[List.map_nil]at r;cases r;exact .nil
 |b::bs,_,r=>by
  cases r with
  |cons h t=>
   obtain rfl:=(show _=Value.bool b from h)
   exact .cons (by simp[rN]) (wk t)
theorem DRel.find{k:List Bool}:∀{xs:DX}{us:DU},DRel xs us->RelO (nR xs k) ((atKey us k).map (·.2))
 |_,_,.nil=>trivial
 |x::xs,u::us,.cons ⟨h1,h2,h3⟩ t=>by
  have ih:=DRel.find (k:=k) t;unfold nR atKey at ih⊢;by_cases e:x.1=k;·have e':=h1▸e;simp only[List.find?_cons,e,e',decide_true,Option.map_some];exact h3
  ·have e' : ¬ u.1=k:=λz=>e (h1.trans z);simp only[List.find?_cons,e,e',decide_false];exact ih
def DRel.isSome{k:List Bool}{xs:DX}{us:DU}(r:DRel xs us):(nR xs k).isSome=(atKey us k).isSome:=by have h:=r.find (k:=k);revert h;cases nR xs k <;> cases atKey us k <;> intro h <;> first|rfl|exact h.elim
section
variable{o:Obj}{xs:DX}{k:List Bool}{A:Around}
def oC(I:Inv X pins σ H s)(h:SqT X.K H q (k.map V.bl)):(tupleKind (rN X.prog X.w)).is s.heap k q:=by obtain⟨its,rv,⟨o,h1,h2,n,h3⟩,_⟩:=I.tuple h;exact⟨o,its.toArray,n,h1,h2,h3,by simpa using wk rv⟩
def oM(I:Inv X pins σ H s)(e:H a=some (DctO a o xs))(kk:iG X.K H xs):xs.length<=sizeLine/\(a==sysModules)=false/\∃us:DU,DRel xs us/\s.heap.DictOfH (tupleKind (rN X.prog X.w)) a us:=by
 obtain⟨⟨h1,z1,z2,h2,us,r,es,ep,h3,h4,h5⟩,_⟩:=(show ObjOk X.prog X.w H s.heap a (DctO a o xs) from I.hok a _ e)
 refine⟨z1,z2,us,r,o,es,ep,h1,h2,h3,h4,λu hu=>?_,h5⟩;have all:∀{l:DX}{m:DU},DRel l m->(∀x∈l,SqT X.K H x.2.1 (x.1.map V.bl))->∀u∈m,(tupleKind (rN X.prog X.w)).is s.heap u.1 u.2.1:=by
  intro l m q;induction q with
  |nil=>intro _ u hu;exact nomatch hu
  | @cons x y ps qs hq t ih=>
   intro hl u hu;rcases List.mem_cons.mp hu with z|hu
   ·subst z;have:=oC I (hl x (List.mem_cons_self ..));rw[hq.1,hq.2.1]at this;exact this
   ·exact ih (λx hx=>hl x (List.mem_cons_of_mem _ hx)) u hu
 exact all r kk u hu
def F5{Q:Value->Shared->Prop}(hu:A.units+1<cLine)(I:Inv X pins σ H s)(e:H a=some (DctO a o xs))(kk:iG X.K H xs)(hk:SqT X.K H q (k.map V.bl))(hv:nR xs k=some v)(h:∀w' s',Inv X pins σ H s'->RelV v w'->Q w' s'):
  wpAny (model X.prog X.w) A (getItem (.ref a) (.ref q)) Q E s:=by
 obtain⟨z,hd,us,rel,dd⟩:=oM I e kk;obtain⟨w',hw,rw'⟩:=RelO.some_of (by rw[<- hv];exact rel.find);obtain⟨p,hp,hp2⟩:=Option.map_eq_some_iff.mp hw;refine wpAny_getItem_heap (tupleKind_room_in1 hu) (oC I hk) dd hp ?_;rw[hp2];exact h w' _ (I.tok _) rw'
def Im{Q:Value->Shared->Prop}(hu:A.units+1<cLine)(I:Inv X pins σ H s)(e:H a=some (DctO a o xs))(kk:iG X.K H xs)(hk:SqT X.K H q (k.map V.bl))(h:∀s',Inv X pins σ H s'->Q (.bool (nR xs k).isSome) s'):
  wpAny (model X.prog X.w) A (compareOp .In (.ref q) (.ref a)) Q E s:=by
 obtain⟨z,hd,us,rel,dd⟩:=oM I e kk;refine wpAny_in_heap (tupleKind_room_in1 hu) (oC I hk) hd dd ?_;rw[<- rel.isSome];exact h _ (I.tok _)
def Au{Q:Value->Shared->Prop}(hu:A.units+1<cLine)(I:Inv X pins σ H s)(e:H a=some (DctO a o xs))(kk:iG X.K H xs)(hk:SqT X.K H q (k.map V.bl))(h:∀s',Inv X pins σ H s'->Q (.bool (!(nR xs k).isSome)) s'):
  wpAny (model X.prog X.w) A (compareOp .NotIn (.ref q) (.ref a)) Q E s:=by
 obtain⟨z,hd,us,rel,dd⟩:=oM I e kk;refine wpAny_notIn_heap (tupleKind_room_in1 hu) (oC I hk) hd dd ?_;rw[<- rel.isSome];exact h _ (I.tok _)
noncomputable def CV(xs:DX)(k:List Bool)(q:Addr)(v:V):DX:=if (nR xs k).isSome then xs.map (λx=>if x.1=k then (x.1,x.2.1,v)else x)else xs++[(k,q,v)]
theorem DRel.snoc:∀{xs:DX}{us:DU}{x:List Bool×Addr×V}{u:List Bool×Addr×Value},DRel xs us->(x.1=u.1/\x.2.1=u.2.1/\RelV x.2.2 u.2.2)->DRel (xs++[x]) (us++[u])
 |_,_,_,_,.nil,h=>.cons h .nil
 |_,_,_,_,.cons a t,h=>.cons a (DRel.snoc t h)
def DRel.put{xs:DX}{us:DU}(r:DRel xs us)(q:Addr)(rv:RelV v u):DRel (CV xs k q v) (storedH us k q u):=by
 have e:(nR xs k).isSome=(atKey us k).isSome:=r.isSome;unfold CV storedH;rw[e];by_cases z:(atKey us k).isSome=true
 ·rw[if_pos z,if_pos z];clear e z;induction r with
  |nil=>exact .nil
  | @cons x y ps qs h t ih=>
   obtain⟨h1,h2,h3⟩:=h;rw[List.map_cons,List.map_cons];refine .cons ?_ ih;unfold putAt;by_cases z:x.1=k;·rw[if_pos z,if_pos (h1▸z)];exact⟨h1,h2,rv⟩
   ·rw[if_neg z,if_neg (λy=>z (h1.trans y))];exact⟨h1,h2,h3⟩
 ·rw[if_neg z,if_neg z];exact DRel.snoc r ⟨rfl,rfl,rv⟩
def BU(xs:DX)(k:List Bool)(q:Addr)(v:V):(CV xs k q v).length<=xs.length+1:=by unfold CV;split <;> simp
def E2{Q:Unit->Shared->Prop}(hu:A.units+1<cLine)(I:Inv X pins σ H s)(e:H a=some (DctO a o xs))(kk:iG X.K H xs)(hk:SqT X.K H q (k.map V.bl))(hl:xs.length<sizeLine)(rv:RelV v u)(h:∀o' s',Inv X pins σ (upd H a (DctO a o' (CV xs k q v))) s'->Q () s'):
  wpAny (model X.prog X.w) A (setItem (.ref a) (.ref q) u) Q E s:=by
 obtain⟨z,hd,us,rel,dd⟩:=oM I e kk;have hz:us.length<=sizeLine:=by rw[<- Paired.length rel];exact z
 refine wpAny_setItem_heap (tupleKind_room_in1 hu) (oC I hk) dd λh' dd' hs=>?_;obtain⟨o',es,ep,h1,h2,h3,h4,_,h5⟩:=dd';refine h o' _ (I.write (by rw[e];trivial) (.inl rfl) (λb y hb z=>(hs.2 b hb).trans z) ⟨o',h1⟩ (DctO.ok ⟨h1,?_,hd,h2,_,rel.put q rv,es,ep,h3,h4,h5⟩));have:=BU xs k q v;omega
end
end L2
namespace L2
open PySem PySem.Spec PyProof.Rows
def Inv.big0(I:Inv X pins σ H s):(s.heap.objs.size==sysModules)=false:=by have h:=(I.mod.glob.keeps I.bk).lt;exact beq_eq_false_iff_ne.mpr λe=>by rw[e]at h;exact absurd h (by decide)
section
noncomputable def LV:TE:=λ_ H Q=>∀p o,H p=none->Q (.ref p) (upd H p (DctO p o []))
def GY:PE X (.Dict [] [] pos) LV:=λpins s σ H Q I h=>wpAny_Dict_empty ⟨.ref s.heap.objs.size,_,I.laid (λ_ _ q=>Heap.get?_push_of_some _ q) (Nat.le_refl _) (DctO.ok ⟨Heap.get?_push_size _ rfl,Nat.zero_le _,I.big0,⟨rfl,rfl,rfl⟩,[],.nil,#[],0,rfl,rfl,List.nodup_nil⟩),rfl,h _ _ (I.hok.fresh (Nat.le_refl _))⟩
noncomputable def Mb(tk tv:TE)(K:PySem.W.Frag):TE:=λσ H Q=>∀p o,H p=none->tk σ (upd H p (DctO p o [])) λx H1=>tv σ H1 λy H2=>H2 p=some (DctO p o [])/\∃q bs,x=.ref q/\SqT K H2 q (bs.map V.bl)/\∀o',Q (.ref p) (upd H2 p (DctO p o' [(bs,q,y)]))
def E4{k v:Expr}{tk tv:TE}(hu:X.A.units+1<cLine)(hk:PE X k tk)(hv:PE X v tv):PE X (.Dict [some k] [v] pos) (Mb tk tv X.K):=λpins s σ H Q I h=>by have hn:=I.hok.fresh (Nat.le_refl s.heap.objs.size);have I1:Inv X pins σ (upd H s.heap.objs.size (DctO s.heap.objs.size { cls:=.type "dict",data:=.dict #[] } [])) { s with heap:=s.heap.push { cls:=.type "dict",data:=.dict #[] } }:=I.laid (λ_ _ q=>Heap.get?_push_of_some _ q) (Nat.le_refl _) (DctO.ok ⟨Heap.get?_push_size _ rfl,Nat.zero_le _,I.big0,⟨rfl,rfl,rfl⟩,[],.nil,#[],0,rfl,rfl,List.nodup_nil⟩);refine wpAny_Dict_any rfl rfl (by simp) (by show 1<=15;decide) (pairTrees_cons_walk (thn (hk pins _ σ _ _ I1 (h _ _ hn)) λu s1 ⟨x,H1,I2,rx,q1⟩=>thn (hv pins s1 σ H1 _ I2 q1) λw s2 ⟨y,H2,I3,ry,hp,q,bs,ex,hq,q2⟩=>pairTrees_nil_walk ?_));subst ex;cases rx;obtain⟨z,hd,us,rel,dd⟩:=oM I3 hp (λ_ hx=>nomatch hx);cases rel;refine wpAny_bind (wpAny_bind (wpAny_dictSet_heap (show X.A.units<cLine by omega) (oC I3 hq) dd λh' dd' hs=>?_));refine wpAny_pure ?_;obtain⟨o,es,ep,h1,h2,h3,h4,_,h5⟩:=dd';refine wpAny_pure ⟨.ref _,_,?_,rfl,q2 o⟩;exact I3.write (by rw[hp];trivial) (.inl rfl) (λb y hb z=>(hs.2 b hb).trans z) ⟨o,h1⟩ (DctO.ok ⟨h1,by show 1<=sizeLine;decide,hd,h2,_,.cons ⟨rfl,rfl,ry⟩ .nil,es,ep,h3,h4,h5⟩)
end
def Cu:∀a b c d:Bool,sF [a,b]=sF [c,d]->[a,b]=[c,d]:=by decide +kernel
theorem D8{α:Type}{f:α->Int}{c:Int}:∀{l:List α},(l.map f).Nodup->(l.filter λx=>f x==c).length<=1
 | [],_=>by simp
 |a::l,h=>by
  rw[List.map_cons,List.nodup_cons]at h;by_cases e:f a=c;·have z:=List.filter_eq_nil_iff.2 λx hx q=>h.1 (List.mem_map.2 ⟨x,hx,by rw[e];exact eq_of_beq q⟩);rw[List.filter_cons_of_pos (by simp[e]),z];simp
  ·rw[List.filter_cons_of_neg (by simp[e])];exact D8 h.2
noncomputable def LZ(xs:DX):Prop:=∀x∈xs,∃a b,x.1=[a,b]
theorem rm:∀{us:DU},(∀u∈us,∃a b,u.1=[a,b])->(us.map (·.1)).Nodup->(us.map λu=>sF u.1).Nodup
 | [],_,_=>List.nodup_nil
 |u::us,h2,hn=>by rw[List.map_cons,List.nodup_cons]at hn⊢;refine⟨λhm=>hn.1 ?_,rm (λx hx=>h2 x (List.mem_cons_of_mem _ hx)) hn.2⟩;obtain⟨y,hy,e⟩:=List.mem_map.1 hm;obtain⟨a,b,e1⟩:=h2 u (List.mem_cons_self ..);obtain⟨c,d,e2⟩:=h2 y (List.mem_cons_of_mem _ hy);rw[e1,e2]at e;exact List.mem_map.2 ⟨y,hy,by rw[e1,e2];exact Cu _ _ _ _ e⟩
theorem DRel.twos:∀{xs:DX}{us:DU},DRel xs us->LZ xs->∀u∈us,∃a b,u.1=[a,b]
 |_,_,.nil,_,u,hu=>nomatch hu
 |x::xs,y::us,.cons h t,h2,u,hu=>by
  rcases List.mem_cons.1 hu with rfl|hu;·obtain⟨a,b,e⟩:=h2 x (List.mem_cons_self ..);exact⟨a,b,h.1▸e⟩
  ·exact DRel.twos t (λz hz=>h2 z (List.mem_cons_of_mem _ hz)) u hu
section
variable{prog:Program}{w:World}{A:Around}
def xR{d o:Addr}{od oo:Obj}{es:Array DictEntry}{e0 ep:Nat}{id:String}{Q:Unit->Shared->Prop}(hne:(d==o)=false)(hos:(o==sysModules)=false)(hd:s.heap.get? d=some od)(hdd:od.data=.dict #[] e0)(ho:s.heap.get? o=some oo)(hdo:oo.data=.dict es ep)(hz:es.size<=sizeLine)(h0:0<es.size)(hr:∀e∈es.toList,∃q,e.key=.ref q/\s.TypeIs (.ref q) "tuple")(hf:∀e∈es.toList,(es.filter (·.hash==e.hash)).size<=1)(h:Q () { s with heap:=s.heap.update d (Obj.mapDictKeys λ_=>es) }):wpAny (model prog w) A (Builtin.Dict.mergeDict id d o) Q E s:=by
 have few:(decide (es.size<=8) && es.all λe=>(keyPart e.key).isSome)=false:=by
  have hx:es[0]∈es.toList:=by simp
  obtain⟨q,e,_⟩:=hr _ hx;have:(es.all λe=>(keyPart e.key).isSome)=false:=by rw[Array.all_eq_false];exact⟨0,h0,by rw[e];exact Bool.false_ne_true⟩
  rw[this,Bool.and_false]
 unfold Builtin.Dict.mergeDict Builtin.Dict.showsAll;rw[hne,hos];refine wpAny_bind (wpAny_pure (wpAny_bind (wpAny_dictEntries ho hdo ?_)));rw[few];refine wpAny_bind (wpAny_dictEntries hd hdd ?_);refine wpAny_bind (wpAny_bind (wpAny_dictEntries ho hdo (wpAny_bind ?_)));rw[<- Array.forIn_toList];refine wpAny_forIn_list _ (λcT _ z=>z=s/\∀e∈cT,e∈es.toList) _ (λe cT _ z hz'=>?_) (λ_ z hz'=>?_) _ _ ⟨rfl,λe he=>he⟩;·obtain⟨rfl,he⟩:=hz';obtain⟨q,ek,ty⟩:=hr e (he e (List.mem_cons_self ..));rw[ek];refine wpAny_bind (wpAny_bind (wpAny_specialOf ty PySem.F.slot_tuple_eq.lookup (wpAny_pure ?_)));rw[if_neg (Nat.not_lt.2 (hf e (he e (List.mem_cons_self ..))))];exact wpAny_pure ⟨rfl,λx hx=>he x (List.mem_cons_of_mem _ hx)⟩
 ·obtain⟨rfl,_⟩:=hz';refine wpAny_pure ?_;have ne:(!es.isEmpty)=true:=by simp;intro z;rw[z]at h0;exact absurd h0 (by simp)
  rw[if_pos ne];exact wpAny_bind (wpAny_updateDictKeysTo hd hdd (wpAny_pure h) (by omega))
end
theorem DRel.refs(I:Inv X pins σ H s):∀{xs:DX}{us:DU},DRel xs us->iG X.K H xs->∀u∈us,s.TypeIs (.ref u.2.1) "tuple"
 |_,_,.nil,_,u,hu=>nomatch hu
 |x::xs,y::us,.cons h t,kk,u,hu=>by
  rcases List.mem_cons.1 hu with rfl|hu;·obtain⟨its,rv,⟨o,h1,h2,_⟩,_⟩:=I.tuple (kk x (List.mem_cons_self ..));exact⟨o,h.2.1▸h1,h2⟩
  ·exact DRel.refs I t (λz hz=>kk z (List.mem_cons_of_mem _ hz)) u hu
def sS:lS X (.type "dict") (λxs H Q=>∃a o ys,xs=[.ref a]/\H a=some (DctO a o ys)/\iG X.K H ys/\LZ ys/\ys≠[]/\∀p o',H p=none->Q (.ref p) (upd H p (DctO p o' ys))):=by
 intro pins s σ H xs vs Q I r h;obtain⟨a,o0,ys,rfl,e,kk,tw,ne,q⟩:=h;obtain⟨u,rfl,rx⟩:=BM r;cases rx;obtain⟨z,hd,us,rel,dd⟩:=oM I e kk;obtain⟨o,es,ep,h1,h2,h3,h4,h5,h6⟩:=id dd;have tn:∀h:Heap,h.get? s.heap.objs.size=some { cls:=.type "dict",data:=.dict #[] }->Shared.TypeIs { s with heap:=h } (.ref s.heap.objs.size) "dict":=λh e=>⟨_,e,rfl⟩
 have hlt:=Heap.lt_size h1;have ho:(s.heap.push { cls:=.type "dict",data:=.dict #[] }).get? a=some o:=Heap.get?_push_of_some _ h1;have hn:(s.heap.push { cls:=.type "dict",data:=.dict #[] }).get? s.heap.objs.size=some { cls:=.type "dict",data:=.dict #[] }:=Heap.get?_push_size _ rfl;have ta:Shared.TypeIs { s with heap:=s.heap.push { cls:=.type "dict",data:=.dict #[] } } (.ref a) "dict":=⟨o,ho,h2.1⟩
 have ez:es.size=us.length:=by rw[<- Array.length_toList,h4,List.length_map]
 have uz:=(Paired.length rel).symm;refine callType_codes (Q₁:=λv t=>v=.ref s.heap.objs.size/\t={ s with heap:=s.heap.push { cls:=.type "dict",data:=.dict #[] } }) PySem.F.kt_called_dict (PySem.F.kt_typeCall_dict_1 _) PySem.F.entry_dict_init (kt_code_dict_new _ ⟨rfl,rfl⟩) λv t hv=>?_;obtain⟨rfl,rfl⟩:=hv;refine⟨tn _ hn,PySem.F.args_dict_init_2 _ _,?_⟩;have fin:∀h',h'=(s.heap.push { cls:=.type "dict",data:=.dict #[] }).update s.heap.objs.size (Obj.mapDictKeys λ_=>es)->EP X pins σ Q (.ref s.heap.objs.size) { s with heap:=h' }:=λh' eh=>by subst eh;refine⟨.ref s.heap.objs.size,_,I.laid (λb y hb=>?_) (Nat.le_refl _) (DctO.ok ⟨Heap.get?_update_self _ hn rfl,z,I.big0,⟨rfl,rfl,rfl⟩,us,rel,es,_,rfl,h4,h6⟩),rfl,q _ _ (I.hok.fresh (Nat.le_refl _))⟩;exact(Heap.get?_update_ne _ _ _ _ (Nat.ne_of_lt (Heap.lt_size hb))).trans (Heap.get?_push_of_some _ hb)
 have mg:∀{id:String}{Q':Unit->Shared->Prop}{A':Around}{E':Value->Shared->Prop},Q' () { s with heap:=(s.heap.push { cls:=.type "dict",data:=.dict #[] }).update s.heap.objs.size (Obj.mapDictKeys λ_=>es) }->wpAny (model X.prog X.w) A' (Builtin.Dict.mergeDict id s.heap.objs.size a) Q' E' { s with heap:=s.heap.push { cls:=.type "dict",data:=.dict #[] } }:=λhq=>
  xR (beq_eq_false_iff_ne.2 (Nat.ne_of_gt hlt)) hd hn rfl ho h3 (by omega) (by rw[ez,uz];exact List.length_pos_iff.2 ne) (λx hx=>by
   rw[h4]at hx;obtain⟨u,hu,rfl⟩:=List.mem_map.1 hx;obtain⟨ob,e1,e2⟩:=DRel.refs I rel kk u hu;exact⟨u.2.1,rfl,ob,Heap.get?_push_of_some _ e1,e2⟩) (λx hx=>by
   have hh:=D8 (c:=x.hash) (rm (rel.twos tw) h6);rw[<- Array.length_toList,Array.toList_filter,h4,List.filter_map,List.length_map];exact hh) hq;have sub:=PySem.F.kt_sub_dict
 wp_walk using wpAny_notOrdered_dict (tn _ hn),wpAny_specialOf ta PySem.F.slot_dict_iter.lookup,mg
 exact⟨rfl,fin _ rfl⟩
section
variable{prog:Program}{w:World}{A:Around}{d:Addr}{o:Obj}{es:Array DictEntry}{ep:Nat}
def wU{Q:Value->Shared->Prop}(hs:(d==sysModules)=false)(ho:s.heap.get? d=some o)(hx:o.ExactDict)(h:Q (.ref s.heap.objs.size) { s with heap:=s.heap.push { cls:=.type "dict_items",data:=.fields #[.ref d] } }):
  wpAny (model prog w) A (call (.builtin "dict.items") [.ref d]) Q E s:=by
 have t:s.TypeIs (.ref d) "dict":=⟨o,ho,hx.1⟩
 refine wpAny_call_entry PySem.F.slot_dict_items t PySem.F.entry_dict_items ?_ (PySem.F.args_dict_items_1 _)
 wp_walk using wpAny_notOrdered_dict t
 exact⟨_,rfl,h⟩
def xJ{v:Addr}{Q:Value->Shared->Prop}(hv:s.heap.get? v=some { cls:=.type "dict_items",data:=.fields #[.ref d] })(ho:s.heap.get? d=some o)(hd:o.data=.dict es ep)(h:Q (.ref s.heap.objs.size) { s with heap:=s.heap.push { cls:=.type "dict_itemiterator",data:=.fields #[.none,.bool false,.ref d,.int 0 0,.int es.size 0,.int ep 0,.none,.none] } }):
  wpAny (model prog w) A (pyIter (.ref v)) Q E s:=by
 have t:s.TypeIs (.ref v) "dict_items":=⟨_,hv,rfl⟩
 refine wpAny_pyIter_slot t PySem.F.slot_dict_items_iter (wpAny_call_entry PySem.F.slot_dict_items_iter t PySem.F.entry_dict_items_iter ?_ (PySem.F.args_dict_items_iter_1 _))
 wp_walk using wpAny_field hv rfl rfl,wpAny_dictEntries ho hd,wpAny_dictEpoch ho hd
 have own:Builtin.Dict_items.ownsTuple "dict_itemiterator"=true:=by decide
 refine⟨_,rfl,"dict_itemiterator",_,⟨_,Heap.get?_push_size _ rfl,rfl⟩,PySem.F.slot_dict_itemiterator_next.lookup,?_⟩;simpa[own,rawInt,Builtin.Dict_items.ownedTupleFields]using h
noncomputable def Nr(it d:Addr)(n ep i:Nat)(h:Heap):Prop:=∃x y,IsItemIter h it d i n ep x y
def xG{Q:Option Value->Shared->Prop}{x y:Value}(hi:IsItemIter s.heap it d i es.size ep x y)(hne:d≠it)(ho:s.heap.get? d=some o)(hd:o.data=.dict es ep)(hl:i<es.size)(h:∀h',IsItemIterOut h' it d (i+1) es.size ep es[i].key es[i].val s.heap.objs.size->h'.get? s.heap.objs.size=some { cls:=.type "tuple",data:=.seq #[es[i].key,es[i].val] }->(∀b ob,b≠it->s.heap.get? b=some ob->h'.get? b=some ob)->Q (some (.ref s.heap.objs.size)) { s with heap:=h' }):
  wpAny (model prog w) A (pyNext (.ref it)) Q E s:=by
 have t:s.TypeIs (.ref it) "dict_itemiterator":=⟨_,hi,rfl⟩
 refine wpAny_bind (wpAny_attempt (wpAny_callSpecial?_slot t PySem.F.slot_dict_itemiterator_next (wpAny_call_entry PySem.F.slot_dict_itemiterator_next t PySem.F.entry_dict_itemiterator_next ?_ (PySem.F.args_dict_itemiterator_next_1 _))))
 wp_walk using wpAny_typeNameOfWhole_itemiter t,wpAny_fieldsOf hi rfl,wpAny_dictEntries ho hd,wpAny_dictEpoch ho hd
 have i0:(if (i:Int)<0 then none else es[(i:Int).toNat]?)=some es[i]:=by rw[if_neg (by omega),Int.toNat_natCast,Array.getElem?_eq_getElem hl]
 rw[i0];refine wpAny_bind (wpAny_bind (wpAny_typeNameOfWhole_itemiter t (wpAny_pure (wpAny_bind (wpAny_isOneOf_itemiter t ?_)))));show wpAny _ _ (setField (.ref it) 3 (rawInt ((i:Int)+1))>>=_) _ _ s;refine wpAny_bind (wpAny_setField_rec hi (by simp) λh1 e1 s1=>wpAny_bind (wpAny_holding ?_));have t1:Shared.TypeIs { s with heap:=h1 } (.ref it) "dict_itemiterator":=⟨_,e1,rfl⟩
 refine wpAny_bind (wpAny_isOneOf_itemiter t1 (wpAny_bind (wpAny_isOneOf_itemiter t1 ?_)));refine wpAny_bind (wpAny_newTuple ?_);have e2:IsItemIter (h1.push { cls:=.type "tuple",data:=.seq #[es[i].key,es[i].val] }) it d (i+1) es.size ep x y:=Heap.get?_push_of_some _ e1;have lt:=Heap.lt_size hi;have z1:=s1.1;have g2:(h1.push { cls:=.type "tuple",data:=.seq #[es[i].key,es[i].val] }).get? s.heap.objs.size=some { cls:=.type "tuple",data:=.seq #[es[i].key,es[i].val] }:=by rw[<- z1];exact Heap.get?_push_size _ rfl
 have k2:∀b ob,b≠it->s.heap.get? b=some ob->(h1.push { cls:=.type "tuple",data:=.seq #[es[i].key,es[i].val] }).get? b=some ob:=λb ob n q=>Heap.get?_push_of_some _ (s1.extBut b ob n q);rw[show({ s with heap:=h1 }:Shared).heap.objs.size=s.heap.objs.size from z1];have gt:=Nat.ne_of_gt lt;refine wpAny_bind (wpAny_bind (wpAny_field e2 rfl rfl (wpAny_pure ?_)));refine wpAny_bind (wpAny_field e2 rfl rfl (wpAny_bind (wpAny_field e2 rfl rfl (wpAny_bind (wpAny_setField_rec e2 (by simp) λh3 e3 s3=>?_)))));refine wpAny_bind (wpAny_setField_rec e3 (by simp) λh4 e4 s4=>wpAny_bind (wpAny_setField_rec e4 (by simp) λh5 e5 s5=>?_));refine wpAny_bind (wpAny_setField_rec e5 (by simp) λh6 e6 s6=>wpAny_bind (wpAny_letGo (wpAny_pure (wpAny_pure ⟨_,rfl,wpAny_pure (h h6 e6 ?_ ?_)⟩))));·exact s6.extBut _ _ gt (s5.extBut _ _ gt (s4.extBut _ _ gt (s3.extBut _ _ gt g2)))
 ·exact λb ob n q=>s6.extBut b ob n (s5.extBut b ob n (s4.extBut b ob n (s3.extBut b ob n (k2 b ob n q))))
def AJ{Q:Option Value->Shared->Prop}{x y:Value}(hh:A.handled=none)(hi:IsItemIter s.heap it d i es.size ep x y)(hne:d≠it)(ho:s.heap.get? d=some o)(hd:o.data=.dict es ep)(hl:es.size<=i)(h:∀h',(∀b ob,b≠it->s.heap.get? b=some ob->h'.get? b=some ob)->Q none { s with heap:=h' }):wpAny (model prog w) A (pyNext (.ref it)) Q E s:=by
 have t:s.TypeIs (.ref it) "dict_itemiterator":=⟨_,hi,rfl⟩
 refine wpAny_bind (wpAny_attempt (wpAny_callSpecial?_slot t PySem.F.slot_dict_itemiterator_next (wpAny_call_entry PySem.F.slot_dict_itemiterator_next t PySem.F.entry_dict_itemiterator_next ?_ (PySem.F.args_dict_itemiterator_next_1 _))))
 wp_walk using wpAny_typeNameOfWhole_itemiter t,wpAny_fieldsOf hi rfl,wpAny_dictEntries ho hd,wpAny_dictEpoch ho hd
 have i0:(if (i:Int)<0 then none else es[(i:Int).toNat]?)=none:=by rw[if_neg (by omega),Int.toNat_natCast,Array.getElem?_eq_none hl]
 rw[i0];refine wpAny_bind (wpAny_bind (wpAny_typeNameOfWhole_itemiter t (wpAny_pure ?_)));show wpAny _ _ (setField (.ref it) 2 .none>>=_) _ _ s;refine wpAny_bind (wpAny_setField_rec hi (by simp) λh1 e1 s1=>?_);have sub:=isSubtype_stop;simp only[newExc,raiseNew]
 wp_walk
 exact h _ λb ob n q=>Heap.get?_push_of_some _ (Heap.get?_push_of_some _ (s1.extBut b ob n q))
end
def Dj{ob o:Obj}(hb:b<h.objs.size)(q:(h.push ob).get? b=some o):h.get? b=some o:=by unfold Heap.get? Heap.push at *;simpa[Array.getElem?_push,Nat.ne_of_lt hb]using q
noncomputable def Itd(a:Addr)(o:Obj)(xs:DX):It:=
 ⟨λi H=>H a=some (DctO a o xs)/\i<xs.length,λi H x H'=>∃p y,x=.ref p/\H p=none/\xs[i]?=some y/\H'=upd H p (.tup [.ref y.2.1,y.2.2]),λi H=>H a=some (DctO a o xs)/\xs.length<=i⟩
theorem DRel.get:∀{xs:DX}{us:DU}{i:Nat}{x:List Bool×Addr×V},DRel xs us->xs[i]?=some x->∃u,us[i]?=some u/\x.2.1=u.2.1/\RelV x.2.2 u.2.2
 |_,_,i,_,.nil,e=>by simp at e
 |_,_,0,_,.cons h _,e=>by simp at e;subst e;exact⟨_,rfl,h.2⟩
 |_,_,i+1,_,.cons _ t,e=>DRel.get (i:=i) t (by simpa using e)
def lY{o:Obj}{xs:DX}(I:Inv X pins σ H s)(e:H a=some (DctO a o xs)):E5 a o xs s.heap:=
 (show ObjOk X.prog X.w H s.heap a (DctO a o xs) from I.hok a _ e).1
def xT{w:World}{K:PySem.W.Frag}{tp:Pos}(a it:Addr)(o:Obj)(xs:DX){es:Array DictEntry}{ep:Nat}(hd:o.data=.dict es ep)(hz:es.size=xs.length):
  Turn P w K (.Tuple elts kt tp) (Itd a o xs) [it] it (λi h=>Nr it a es.size ep i h) where
 mem:=by simp
 obj:=λi h st b hb=>by
  obtain⟨x,y,q⟩:=st;obtain rfl:b=it:=by simpa using hb
  exact⟨_,q,λv z=>by cases z⟩
 keep:=λi h h' ⟨x,y,q⟩ k=>⟨x,y,k it (by simp) _ q⟩
 item:=by
  intro X hP hw hK hc i pins s σ H E I hf st hg;obtain⟨x,y,hi⟩:=st;obtain⟨e,hl⟩:=hg;obtain⟨h1,z1,z2,h2,us,r,es',ep',h3,h4,h5⟩:=lY I e;rw[hd]at h3;cases h3;obtain⟨f0,f1,f2,f3,f4,f5⟩:=hf it (by simp);have ne:a≠it:=λz=>by rw[z,f0]at e;cases e
  have hlt:i<es.size:=by omega
  obtain⟨u,hu,k1,k2⟩:=r.get (List.getElem?_eq_getElem hl);have ee:es[i]=⟨sF u.1,.ref u.2.1,u.2.2⟩:=by
   have q:es.toList[i]?=some es[i]:=by simp[hlt]
   rw[h4,List.getElem?_map,hu]at q;exact(Option.some.inj q).symm
  have hp:=I.hok.fresh (Nat.le_refl _);have npt:=Nat.ne_of_gt (Heap.lt_size hi);refine xG hi ne h1 hd hlt λh6 o6 g6 k6=>⟨_,rfl,wpAny_letOwnedTupleGo_items o6 λh7 o7 s7=>?_⟩
  have Ia:Inv X pins σ (upd H s.heap.objs.size (.tup [.ref xs[i].2.1,xs[i].2.2])) { s with heap:=s.heap.push { cls:=.type "tuple",data:=.seq #[es[i].key,es[i].val] } }:=by
   refine I.laid (λb ob q=>Heap.get?_push_of_some _ q) (Nat.le_refl _) ⟨by show 2<=sizeLine;decide,[es[i].key,es[i].val],.cons ?_ (.cons ?_ .nil),IsTup.new _ _⟩;·rw[ee,k1];rfl
   ·rw[ee];exact k2
  have Ib:Inv X pins σ (upd H s.heap.objs.size (.tup [.ref xs[i].2.1,xs[i].2.2])) { s with heap:=h7 }:=by
   refine Inv.turned (s:={ s with heap:=s.heap.push { cls:=.type "tuple",data:=.seq #[es[i].key,es[i].val] } }) Ia (λb ob n q=>?_) (by rw[aw (Ne.symm npt)];exact f0) f1 f3 f4 f5;refine(s7.2 b n).trans ?_;by_cases z:b=s.heap.objs.size;·subst z;have q':=Heap.get?_push_size s.heap (o:={ cls:=.type "tuple",data:=.seq #[es[i].key,es[i].val] }) rfl;exact(g6.trans q'.symm).trans q
   ·refine k6 b ob n ?_;rcases Nat.lt_or_ge b s.heap.objs.size with hb|hb;·exact Dj hb q
    ·have hlt:=Heap.lt_size q;rw[Heap.size_push]at hlt;exact absurd (Nat.le_antisymm (Nat.le_of_lt_succ hlt) hb) z
  exact⟨.ref s.heap.objs.size,_,Ib,rfl,⟨_,_,rfl,hp,List.getElem?_eq_getElem hl,rfl⟩,⟨_,_,o7⟩,λb hb=>by
   obtain rfl:b=it:=by simpa using hb
   rw[aw (Ne.symm npt)];exact f0⟩
 done:=by
  intro X hP hw hK hc i pins s σ H E I hf st hg;obtain⟨x,y,hi⟩:=st;obtain⟨e,hl⟩:=hg;obtain⟨h1,_⟩:=lY I e;obtain⟨f0,f1,f2,f3,f4,f5⟩:=hf it (by simp);have ne:a≠it:=λz=>by rw[z,f0]at e;cases e
  exact AJ (I.ok.hd hc) hi ne h1 hd (by omega) λh' k=>⟨rfl,I.turned k f0 f1 f3 f4 f5⟩
 self:=λA i s Q E ⟨x,y,q⟩ h=>PySem.W.kcp_self q h
def BT{o:Expr}{t:TE}{tp ap cp:Pos}(ho:PE X o t)(hbase:attributeBase o "items" X.env (eval o X.env)=eval o X.env:=by rfl)(hline:(ap.endLine==cp.line)=true:=by rfl):
  PI X (.Tuple elts kt tp) (.Call (.Attribute o "items" ap) [] [] cp) (λσ H R=>t σ H λx H1=>∃a ob xs,x=.ref a/\H1 a=some (DctO a ob xs)/\R (Itd a ob xs) H1):=λpins s σ H R I h=>by
 refine wpAny_Call_method0_late hbase hline (thn (ho pins s σ H _ I h) λv s1 ⟨x,H1,I1,r1,a,ob,xs,ex,e,hR⟩=>?_);subst ex;cases r1;obtain⟨h1,z1,z2,h2,us,r,es,ep,h3,h4,h5⟩:=lY I1 e;have hz:es.size=xs.length:=by rw[<- Array.length_toList,h4,List.length_map];exact(Paired.length r).symm
 refine⟨"dict","dict.items",PySem.F.plainAttrs_dict,PySem.F.slot_dict_items,PySem.F.type_dict_items,⟨ob,h1,h2.1⟩,λb eb=>?_,Calls.callWith_builtin rfl (PySem.evalArgs_none (wU z2 h1 h2 ?_))⟩;·cases eb;exact⟨ob,h1,h2.2.1⟩
 have I2:Inv X pins σ H1 { s1 with heap:=s1.heap.push { cls:=.type "dict_items",data:=.fields #[.ref a] } }:=I1.kept λb q e=>Heap.get?_push_of_some _ e;refine xJ (Heap.get?_push_size _ rfl) (Heap.get?_push_of_some _ h1) h3 ?_;refine⟨_,[_],_,_,H1,rfl,I2.kept λb q e=>Heap.get?_push_of_some _ e,xT a _ ob xs h3 hz,⟨_,_,Heap.get?_push_size _ rfl⟩,λb hb=>?_,hR⟩;obtain rfl:=List.mem_singleton.1 hb;exact I2.fpOk (Nat.le_refl _) (I2.hok.fresh (Nat.le_refl _))
end L2
set_option maxRecDepth 100000
set_option maxHeartbeats 4000000
namespace L2
open PySem PySem.Spec PyProof.Rows
inductive D where
  |non|bl (b : Bool)|int (i : Int)|str (x : List Nat)|tup (xs : List D)|lst (fz : Bool) (xs : List D)|exc (C : Addr)
  |dct (ks : List Nat) (xs : List D)
noncomputable def code(a b:Bool):Nat:=(if a then 1 else 0)+(if b then 2 else 0)
inductive KeysAt(K:PySem.W.Frag)(G:Hp):DX->List Nat->Prop
 |nil:KeysAt K G [] []
 |cons {q:Addr} {v:V} {a b:Bool} {xs:DX} {ks:List Nat} (h:SqT K G q [.bl a,.bl b]) (t:KeysAt K G xs ks):KeysAt K G (([a,b],q,v)::xs) (code a b::ks)
noncomputable def IS(a C:Addr):Heap->Prop:=λh=>∃ob,h.get? a=some ob/\ob.cls=.ref C
mutual
inductive Rep(K:PySem.W.Frag)(G:Hp):V->D->Prop
 |non:Rep K G .non .non
 |bl (b:Bool):Rep K G (.bl b) (.bl b)
 |int (i:Int):Rep K G (.int i) (.int i)
 |str (x:Str) (h:x.length<=sizeLine):Rep K G (.str x) (.str x.cps.toList)
 |tup {a:Addr} {vs:List V} {ds:List D} (h:SqT K G a vs) (r:Reps K G vs ds):Rep K G (.ref a) (.tup ds)
 |lst {a:Addr} {vs:List V} {ds:List D} (h:G a=some (.lst vs)) (r:Reps K G vs ds):Rep K G (.ref a) (.lst false ds)
 |fls {a:Addr} {vs:List V} {ds:List D} (h:SqL K G a vs) (r:Reps K G vs ds):Rep K G (.ref a) (.lst true ds)
 |exc {a C:Addr} (h:G a=some (.ext (IS a C))):Rep K G (.ref a) (.exc C)
 |dct {a:Addr} {o:Obj} {xs:DX} {ks:List Nat} {ds:List D} (h:G a=some (DctO a o xs)) (k:KeysAt K G xs ks) (r:Reps K G (xs.map (·.2.2)) ds):Rep K G (.ref a) (.dct ks ds)
inductive Reps(K:PySem.W.Frag)(G:Hp):List V->List D->Prop
 |nil:Reps K G [] []
 |cons {v:V} {d:D} {vs:List V} {ds:List D} (r:Rep K G v d) (t:Reps K G vs ds):Reps K G (v::vs) (d::ds)
end
section
variable{K:PySem.W.Frag}{G' G1 H1 G2 H2:Hp}
def SqT.mono(e:Same G G')(h:SqT K G a xs):SqT K G' a xs:=by
 rcases h with (h|⟨o,h⟩)|h;·exact .inl (.inl (e _ _ h))
 ·exact .inl (.inr ⟨o,e _ _ h⟩)
 ·exact .inr h
def KeysAt.mono(e:Same G G'):∀{xs:DX}{ks:List Nat},KeysAt K G xs ks->KeysAt K G' xs ks
 |_,_,.nil=>.nil
 |_,_,.cons h t=>.cons (h.mono e) (t.mono e)
def SqL.mono(e:Same G G')(h:SqL K G a xs):SqL K G' a xs:=e.seq h
mutual
theorem Rep.mono(e:Same G G'):∀{v:V}{d:D},Rep K G v d->Rep K G' v d
 |_,_,.non=>.non
 |_,_,.bl b=>.bl b
 |_,_,.int i=>.int i
 |_,_,.str x h=>.str x h
 |_,_,.tup h r=>.tup (h.mono e) (Reps.mono e r)
 |_,_,.lst h r=>.lst (e _ _ h) (Reps.mono e r)
 |_,_,.fls h r=>.fls (h.mono e) (Reps.mono e r)
 |_,_,.exc h=>.exc (e _ _ h)
 |_,_,.dct h k r=>.dct (e _ _ h) (k.mono e) (Reps.mono e r)
theorem Reps.mono(e:Same G G'):∀{vs:List V}{ds:List D},Reps K G vs ds->Reps K G' vs ds
 |_,_,.nil=>.nil
 |_,_,.cons r t=>.cons (Rep.mono e r) (Reps.mono e t)
end
section inv
def Rep.int_inv{i:Int}(r:Rep K G v (.int i)):v=.int i:=by cases r;rfl
def Rep.bl_inv{b:Bool}(r:Rep K G v (.bl b)):v=.bl b:=by cases r;rfl
def Rep.non_inv(r:Rep K G v .non):v=.non:=by cases r;rfl
def Rep.str_inv{x:List Nat}(r:Rep K G v (.str x)):∃y:Str,v=.str y/\y.cps.toList=x/\y.length<=sizeLine:=by
 generalize e:D.str x=d at r;cases r with
 |str y h=>cases e;exact⟨y,rfl,rfl,h⟩
 |_=>cases e
def Rep.tup_inv{ds:List D}(r:Rep K G v (.tup ds)):∃a vs,v=.ref a/\SqT K G a vs/\Reps K G vs ds:=by
 cases r with
 |tup h t=>exact⟨_,_,rfl,h,t⟩
def Rep.lst_inv{ds:List D}(r:Rep K G v (.lst false ds)):∃a vs,v=.ref a/\G a=some (.lst vs)/\Reps K G vs ds:=by
 cases r with
 |lst h t=>exact⟨_,_,rfl,h,t⟩
def Rep.seq_inv{f:Bool}{ds:List D}(r:Rep K G v (.lst f ds)):∃a vs,v=.ref a/\SqL K G a vs/\Reps K G vs ds:=by
 cases r with
 |lst h t=>exact⟨_,_,rfl,.of h,t⟩
 |fls h t=>exact⟨_,_,rfl,h,t⟩
def Rep.strL{x:List Nat}(e:y.cps.toList=x)(h:x.length<=sizeLine):Rep K G (.str y) (.str x):=by subst e;exact .str y (by simpa[Str.length]using h)
end inv
theorem Reps.length:∀{vs:List V}{ds:List D},Reps K G vs ds->vs.length=ds.length
 |_,_,.nil=>rfl
 |_,_,.cons _ t=>by simp[Reps.length t]
theorem Reps.get:∀{vs:List V}{ds:List D}{i:Nat}{d:D},Reps K G vs ds->ds[i]?=some d->∃v,vs[i]?=some v/\Rep K G v d
 |_,_,_,_,.nil,e=>by simp at e
 |_,_,0,_,.cons r _,e=>by simp at e;subst e;exact⟨_,rfl,r⟩
 |_,_,i+1,d,.cons _ t,e=>by obtain⟨v,h1,h2⟩:=Reps.get (i:=i) (d:=d) t (by simpa using e);exact⟨v,by simpa using h1,h2⟩
theorem Reps.append:∀{vs ws:List V}{ds es:List D},Reps K G vs ds->Reps K G ws es->Reps K G (vs++ws) (ds++es)
 |_,_,_,_,.nil,s=>s
 |_,_,_,_,.cons r t,s=>.cons r (Reps.append t s)
theorem Reps.take:∀{vs:List V}{ds:List D}(n:Nat),Reps K G vs ds->Reps K G (vs.take n) (ds.take n)
 |_,_,0,_=>by simpa using Reps.nil
 |_,_,_+1,.nil=>.nil
 |_,_,n+1,.cons r t=>.cons r (Reps.take n t)
theorem Reps.drop:∀{vs:List V}{ds:List D}(n:Nat),Reps K G vs ds->Reps K G (vs.drop n) (ds.drop n)
 |_,_,0,r=>r
 |_,_,_+1,.nil=>.nil
 |_,_,n+1,.cons _ t=>Reps.drop n t
theorem Reps.set{d:D}(r:Rep K G v d):∀{vs:List V}{ds:List D}(i:Nat),Reps K G vs ds->Reps K G (vs.set i v) (ds.set i d)
 |_,_,_,.nil=>.nil
 |_,_,0,.cons _ t=>.cons r t
 |_,_,i+1,.cons q t=>.cons q (Reps.set r i t)
theorem Reps.rep{ds:List D}(r:Reps K G vs ds):∀n:Nat,Reps K G (List.replicate n vs).flatten (List.replicate n ds).flatten
 | 0=>.nil
 |n+1=>by simp only[List.replicate_succ,List.flatten_cons];exact Reps.append r (Reps.rep r n)
structure Up(G H G' H':Hp):Prop where
 sub:Same G' H'
 gg:Same G G'
 hh:Same H H'
 fr:∀a o,G' a=some o->G a=some o\/H a=none
def Up.refl(s:Same G H):Up G H G H:=⟨s,.refl _,.refl _,λ_ _ h=>.inl h⟩
def Up.trans(a:Up G H G1 H1)(b:Up G1 H1 G2 H2):Up G H G2 H2:=⟨b.sub,a.gg.trans b.gg,a.hh.trans b.hh,λc o h=>by
 rcases b.fr c o h with h|h;·exact a.fr c o h
 ·exact .inr (a.hh.free h)⟩
def Same.both{o:HO}(s:Same G H):Same (upd G p o) (upd H p o):=λa u h=>by
 unfold L2.upd at h⊢;split;·rename_i e;rw[if_pos e]at h;exact h
 ·rename_i e;rw[if_neg e]at h;exact s a u h
def Same.into{o:HO}(h:H p=none):Same H (upd H p o):=λa u e=>by rw[aw (aD e h)];exact e
def Up.new{o:HO}(s:Same G H)(hp:H p=none):Up G H (upd G p o) (upd H p o):=
 ⟨s.both,.into (s.free hp),.into hp,λa u h=>by
  by_cases e:a=p;·subst e;exact .inr hp
  ·rw[aw e]at h;exact .inl h⟩
end
inductive R(α:Type) where
 |ok (a:α)|ex (C:Addr)|no
noncomputable def R.bind{α β:Type}:R α->(α->R β)->R β
 |.ok a,f=>f a
 |.ex C,_=>.ex C
 |.no,_=>.no
noncomputable instance:Monad R where
 pure:=.ok
 bind:=R.bind
section
variable{α β:Type}
@[simp] theorem R.ok_bind(a:α)(f:α->R β):(R.ok a>>=f)=f a:=rfl
@[simp] theorem R.ex_bind(C:Addr)(f:α->R β):((R.ex C:R α)>>=f)=.ex C:=rfl
noncomputable def R.post(m:R α)(P:α->Prop)(E:Addr->Prop):Prop:=match m with
 |.ok a=>P a
 |.ex C=>E C
 |.no=>False
def R.post.mono{m:R α}{P P':α->Prop}{E E':Addr->Prop}(h:m.post P E)(hp:∀a,P a->P' a)(he:∀C,E C->E' C):m.post P' E':=by
 cases m with
 |ok a=>exact hp a h
 |ex C=>exact he C h
 |no=>exact h
noncomputable def ofO:Option α->R α
 |some a=>.ok a
 |none=>.no
@[simp] theorem dL(a:α):ofO (some a)=R.ok a:=rfl
theorem ofO.ok{o:Option α}{P:α->Prop}{E:Addr->Prop}(h:(ofO o).post P E):∃a,o=some a/\P a:=by
 cases o with
 |none=>exact h.elim
 |some a=>exact⟨a,rfl,h⟩
end
inductive Fd where
 |val (d:D)|own (ds:List D)
inductive Sl where
  |val (d : D)
  |own (ds : List D)
  |obj (m : Bool) (C p : Addr) (fs : List (Nat × Fd))
noncomputable abbrev Ev:=List (Option Sl)
noncomputable def rdV(ρ:Ev)(i:Nat):R D:=match ρ[i]? with
 |some (some (.val d))=>.ok d
 |_=>.no
noncomputable abbrev rvz(i:Nat):Ev->R D:=λρ=>rdV ρ i
noncomputable abbrev ciz(n:Int):Ev->R D:=λ_=>R.ok (D.int n)
noncomputable abbrev nlz:Ev->R (List D):=λ_=>R.ok []
noncomputable abbrev csz(x:List Nat):Ev->R D:=λ_=>R.ok (D.str x)
noncomputable def fnames:List Str:=["states","taken_back","width","screen","last_notes","tasks","numbers_given"]
noncomputable def dg(k:Nat):Str:=fnames.getD k ""
noncomputable abbrev kj:=Addr->Option (Nat×Nat)
noncomputable def FdAt(K:PySem.W.Frag)(H₀ G H:Hp)(ow:kj)(i:Nat)(m:Bool)(k:Nat):Fd->V->Prop
 |.val d,v=>Rep K G v d
 |.own ds,v=>∃l ws,v=.ref l/\H l=some (.lst ws)/\G l=none/\(m=true->H₀ l=none)/\Reps K G ws ds/\ow l=some (i,k+1)
inductive FdsAt(K:PySem.W.Frag)(H₀ G H:Hp)(ow:kj)(i:Nat)(m:Bool):List (Nat×Fd)->List (Str×V)->Prop
 |nil:FdsAt K H₀ G H ow i m [] []
 |cons {k:Nat} {fd:Fd} {v:V} {fs:List (Nat×Fd)} {vs:List (Str×V)} (h:k<fnames.length) (nk:fs.lookup k=none) (r:FdAt K H₀ G H ow i m k fd v) (t:FdsAt K H₀ G H ow i m fs vs):FdsAt K H₀ G H ow i m ((k,fd)::fs) ((dg k,v)::vs)
noncomputable def InsAt(K:PySem.W.Frag)(H₀ G H:Hp)(ow:kj)(i:Nat)(m:Bool)(C p:Addr)(fs:List (Nat×Fd)):Prop:=
 ∃dx vs,H p=some (.ins C dx vs)/\H dx=some (.own p)/\G p=none/\G dx=none/\(m=true->H₀ p=none/\H₀ dx=none)/\ow p=some (i,0)/\ow dx=some (i,0)/\FdsAt K H₀ G H ow i m fs vs
noncomputable def DcoAt(K:PySem.W.Frag)(H₀ G H:Hp)(ow:kj)(i:Nat)(m:Bool)(p:Addr)(fs:List (Nat×Fd)):Prop:=
 ∃o xs ks ds,H p=some (DctO p o xs)/\G p=none/\(m=true->H₀ p=none)/\ow p=some (i,0)/\KeysAt K G xs ks/\Reps K G (xs.map (·.2.2)) ds/\fs=ks.zip (ds.map Fd.val)
noncomputable abbrev DC:Addr:=0
noncomputable def ObjAt(K:PySem.W.Frag)(H₀ G H:Hp)(ow:kj)(i:Nat)(m:Bool)(C p:Addr)(fs:List (Nat×Fd)):Prop:=(C≠DC/\InsAt K H₀ G H ow i m C p fs)\/(C=DC/\DcoAt K H₀ G H ow i m p fs)
def Kt:∀{ds:List D}{k:Nat}{es:List D},(ks.zip (ds.map Fd.val)).lookup k≠some (.own es):=by
 induction ks with
 |nil=>intro ds k es h;simp at h
 |cons a ks ih=>
  intro ds k es h;cases ds with
  |nil=>simp at h
  |cons d ds=>
   simp only[List.map_cons,List.zip_cons_cons,List.lookup_cons]at h;split at h;·cases h
   ·exact ih h
section
variable{K:PySem.W.Frag}{H₀:Hp}{ow:kj}{m:Bool}{fs:List (Nat×Fd)}
def ObjAt.ins(h:ObjAt K H₀ G H ow i m C p fs)(ne:C≠DC):InsAt K H₀ G H ow i m C p fs:=(h.resolve_right λz=>ne z.1).2
def ObjAt.dco(h:ObjAt K H₀ G H ow i m DC p fs):DcoAt K H₀ G H ow i m p fs:=(h.resolve_left λz=>z.1 rfl).2
def ObjAt.insH{C' dx:Addr}{vs:List (Str×V)}(h:ObjAt K H₀ G H ow i m C p fs)(e:H p=some (.ins C' dx vs)):C≠DC/\InsAt K H₀ G H ow i m C p fs:=h.resolve_right λ⟨_,o,xs,ks,ds,z,_⟩=>by rw[z]at e;cases e
def ObjAt.insL{es:List D}(h:ObjAt K H₀ G H ow i m C p fs)(e:fs.lookup k=some (.own es)):InsAt K H₀ G H ow i m C p fs:=(h.resolve_right λ⟨_,o,xs,ks,ds,_,_,_,_,_,_,z⟩=>by rw[z]at e;exact Kt e).2
end
section
variable{K:PySem.W.Frag}{H₀ H₀' G':Hp}{ow ow':kj}
structure ObKeep(H₀ H₀' G H G' H':Hp)(ow ow':kj)(i:Nat):Prop where
 hh:∀a t o,ow a=some (i,t)->H a=some o->H' a=some o
 gg:Same G G'
 gn:∀a t o,ow a=some (i,t)->H a=some o->G a=none->G' a=none
 oo:∀a t o,ow a=some (i,t)->H a=some o->ow' a=some (i,t)
 h0:∀a o,H a=some o->G a=none->H₀ a=none->H₀' a=none
def FdAt.keep(k:ObKeep H₀ H₀' G H G' H' ow ow' i){m:Bool}{n:Nat}:∀{fd:Fd}{v:V},FdAt K H₀ G H ow i m n fd v->FdAt K H₀' G' H' ow' i m n fd v
 |.val d,v,r=>Rep.mono k.gg (show Rep K G v d from r)
 |.own ds,v,⟨l,ws,e,h1,h2,h3,h4,h5⟩=>⟨l,ws,e,k.hh l _ _ h5 h1,k.gn l _ _ h5 h1 h2,λz=>k.h0 l _ h1 h2 (h3 z),h4.mono k.gg,k.oo l _ _ h5 h1⟩
theorem FdsAt.keep(k:ObKeep H₀ H₀' G H G' H' ow ow' i){m:Bool}:∀{fs:List (Nat×Fd)}{vs:List (Str×V)},FdsAt K H₀ G H ow i m fs vs->FdsAt K H₀' G' H' ow' i m fs vs
 |_,_,.nil=>.nil
 |_,_,.cons h nk r t=>.cons h nk (FdAt.keep k r) (FdsAt.keep k t)
def InsAt.keep(k:ObKeep H₀ H₀' G H G' H' ow ow' i){m:Bool}{fs:List (Nat×Fd)}(h:InsAt K H₀ G H ow i m C p fs):InsAt K H₀' G' H' ow' i m C p fs:=by obtain⟨dx,vs,h1,h2,h3,h4,h5,h6,h7,h8⟩:=h;exact⟨dx,vs,k.hh p _ _ h6 h1,k.hh dx _ _ h7 h2,k.gn p _ _ h6 h1 h3,k.gn dx _ _ h7 h2 h4,λz=>⟨k.h0 p _ h1 h3 (h5 z).1,k.h0 dx _ h2 h4 (h5 z).2⟩,k.oo p _ _ h6 h1,k.oo dx _ _ h7 h2,h8.keep k⟩
def DcoAt.keep(k:ObKeep H₀ H₀' G H G' H' ow ow' i){m:Bool}{fs:List (Nat×Fd)}(h:DcoAt K H₀ G H ow i m p fs):DcoAt K H₀' G' H' ow' i m p fs:=
 let⟨o,xs,ks,ds,h1,h2,h3,h4,h5,h6,h7⟩:=h
 ⟨o,xs,ks,ds,k.hh p _ _ h4 h1,k.gn p _ _ h4 h1 h2,λz=>k.h0 p _ h1 h2 (h3 z),k.oo p _ _ h4 h1,h5.mono k.gg,h6.mono k.gg,h7⟩
def ObjAt.keep(k:ObKeep H₀ H₀' G H G' H' ow ow' i){m:Bool}{fs:List (Nat×Fd)}(h:ObjAt K H₀ G H ow i m C p fs):ObjAt K H₀' G' H' ow' i m C p fs:=h.imp (λz=>⟨z.1,z.2.keep k⟩) λz=>⟨z.1,z.2.keep k⟩
def ObKeep.up(u:Up G H G' H'):ObKeep H₀ H₀ G H G' H' ow ow i:=by
 have gn:∀a o,H a=some o->G a=none->G' a=none:=λa o e n=>by
  cases q:G' a with
  |none=>rfl
  |some o'=>
   rcases u.fr a o' q with z|z;·rw[n]at z;cases z
   ·rw[e]at z;cases z
 exact⟨λa t o _ e=>u.hh a o e,u.gg,λa t o _ e n=>gn a o e n,λa t o e _=>e,λa o _ _ n=>n⟩
end
def ObjAt.rd{K:PySem.W.Frag}{H₀:Hp}{ow:kj}{m:Bool}{fs:List (Nat×Fd)}(h:ObjAt K H₀ G H ow i m C p fs):ObjAt K (λ_=>none) G H ow i m C p fs:=
 h.keep ⟨λ_ _ _ _ e=>e,.refl _,λ_ _ _ _ _ n=>n,λ_ _ _ e _=>e,λ_ _ _ _ _=>rfl⟩
structure StE(K:PySem.W.Frag)(G H:Hp)(σ:St)(ρ:Ev):Prop where
 sub:Same G H
 len:σ.length=ρ.length
 val:∀(i:Nat) d,ρ[i]?=some (some (.val d))->∃v,σ[i]?=some (some v)/\Rep K G v d
 obs:∀(i:Nat) m C p fs,ρ[i]?=some (some (.obj m C p fs))->σ[i]?=some (some (.ref p))/\∃ow,ObjAt K (λ_=>none) G H ow i m C p fs
def StE.up{K:PySem.W.Frag}{G':Hp}{ρ:Ev}(s:StE K G H σ ρ)(u:Up G H G' H'):StE K G' H' σ ρ:=
 ⟨u.sub,s.len,λi d e=>let⟨v,h1,h2⟩:=s.val i d e;⟨v,h1,h2.mono u.gg⟩,λi m C p fs e=>let⟨h1,ow,h2⟩:=s.obs i m C p fs e;⟨h1,ow,h2.keep (.up u)⟩⟩
noncomputable def Fz(P:Program)(w:World)(outer:List Env)(H:Hp)(s:Shared)(a C:Addr)(H':Hp)(s':Shared):Prop:=
 s'.os=s.os/\AllBare s'.gens/\Un (frs outer) [] H H' s.heap s'.heap/\HOk P w H' s'.heap/\H' a=none/\
 ∃(B:Heap)(a0:Value),Heap.FlyingW B outer a (.ref C) a0 s'.heap/\∀b o,b∉frs outer->((∃o0,s.heap.get? b=some o0)\/∃u,H' b=some u)->s'.heap.get? b=some o->B.get? b=some o
noncomputable def CXo(P:Program)(w:World):CXT:=λouter H s E e s'=>∃a C H',e=.ref a/\Fz P w outer H s a C H' s'/\E (.ref C) none H'
noncomputable def NK(X:Cx)(pins:List (Addr×Obj))(b:Addr):Prop:=
 (b∈X.ex\/X.s₀.heap.objs.size<=b)/\b≠X.env.locals/\(∀x c,X.env.cells.lookup x=some c->c≠b)/\∀p∈X.pn++pins,p.1≠b
noncomputable def DG(X:Cx)(pins:List (Addr×Obj))(L:Addr)(H:Hp)(s:Shared)(a C:Addr)(H':Hp)(s':Shared):Prop:=
 s'.os=s.os/\AllBare s'.gens/\(∃ch,(∀b∈ch,NK X pins b)/\Un (frs X.stack) ch H H' s.heap s'.heap)/\HOk X.prog X.w H' s'.heap/\H' a=none/\s.heap.get? a=none/\
 ∃(B:Heap)(a0:Value),Heap.HeldW B X.stack a (.ref C) a0 L s'.heap/\∀b o,b∉frs X.stack->((∃o0,s.heap.get? b=some o0)\/∃u,H' b=some u)->s'.heap.get? b=some o->B.get? b=some o
noncomputable def MW(X:Cx)(σ:St)(G₁ H₁:Hp)(C:Addr)(e:Value)(s':Shared):Prop:=
 ∃pins s₁ a,e=.ref a/\Inv X pins σ H₁ s₁/\
  ((∃h' vs,Heap.MadeExcOf s₁.heap h' a (.ref C) vs/\s'={ s₁ with heap:=h' })\/(∃G' H',Fz X.prog X.w X.stack H₁ s₁ a C H' s'/\Up G₁ H₁ G' H')\/∃G' H' L,X.env.frame=some L/\DG X pins L H₁ s₁ a C H' s'/\Up G₁ H₁ G' H')
noncomputable def Fly(X:Cx)(σ:St)(G H:Hp)(C:Addr)(e:Value)(s':Shared):Prop:=∃G₁ H₁,Up G H G₁ H₁/\MW X σ G₁ H₁ C e s'
def Fly.up{G1 H1:Hp}{e:Value}(u:Up G H G1 H1)(f:Fly X σ G1 H1 C e s'):Fly X σ G H C e s':=
 let⟨G2,H2,v,q⟩:=f;⟨G2,H2,u.trans v,q⟩
section
variable{α β:Type}
noncomputable def Fin(G H:Hp)(rep:Hp->β->α->Prop)(Q:β->Hp->Prop):α->Prop:=λd=>∀v G' H',Up G H G' H'->rep G' v d->Q v H'
noncomputable def Exx(X:Cx)(σ:St)(G H:Hp):Addr->Prop:=λC=>∀e s',Fly X σ G H C e s'->X.xe e s'
def Fin.up{G1 H1:Hp}{rep:Hp->β->α->Prop}{Q:β->Hp->Prop}{d:α}(u:Up G H G1 H1)(h:Fin G H rep Q d):Fin G1 H1 rep Q d:=λv G' H' u' r=>h v G' H' (u.trans u') r
def Exx.up{G1 H1:Hp}(u:Up G H G1 H1)(h:Exx X σ G H C):Exx X σ G1 H1 C:=λe s' f=>h e s' (f.up u)
def pE{G1 H1:Hp}{rep:Hp->β->α->Prop}{Q:β->Hp->Prop}{m:R α}(u:Up G H G1 H1)(h:m.post (Fin G H rep Q) (Exx X σ G H)):m.post (Fin G1 H1 rep Q) (Exx X σ G1 H1):=
 h.mono (λ_=>Fin.up u) λ_=>Exx.up u
noncomputable def tG(X:Cx)(rep:Hp->β->α->Prop)(g:Ev->R α):St->Hp->(β->Hp->Prop)->Prop:=λσ H Q=>∃G ρ,StE X.K G H σ ρ/\(g ρ).post (Fin G H rep Q) (Exx X σ G H)
def tG.intro{γ δ:Type}{ρ:Ev}{rep:Hp->β->α->Prop}{rep':Hp->δ->γ->Prop}{g:Ev->R α}{k:α->R γ}{Q:β->Hp->Prop}{Q':δ->Hp->Prop}(st:StE X.K G H σ ρ)(h:(g ρ>>=k).post (Fin G H rep' Q') (Exx X σ G H))(hk:∀a,∀v G1 H1,Up G H G1 H1->StE X.K G1 H1 σ ρ->rep G1 v a->(k a).post (Fin G1 H1 rep' Q') (Exx X σ G1 H1)->Q v H1):tG X rep g σ H Q:=by
 refine⟨G,ρ,st,?_⟩;cases e:g ρ with
 |ok a=>rw[e]at h;exact λv G' H' u r=>hk a v G' H' u (st.up u) r (pE u h)
 |ex C=>rw[e]at h;exact h
 |no=>rw[e]at h;exact h
def tG.last{ρ:Ev}{rep:Hp->β->α->Prop}{g:Ev->R α}{Q:β->Hp->Prop}(st:StE X.K G H σ ρ)(h:(g ρ).post (Fin G H rep Q) (Exx X σ G H)):tG X rep g σ H Q:=⟨G,ρ,st,h⟩
end
noncomputable abbrev tF(X:Cx)(g:Ev->R D):TE:=tG X (Rep X.K) g
noncomputable abbrev tTF(X:Cx)(g:Ev->R Bool):TT:=tG X (λ_ b c=>b=c) g
noncomputable abbrev tAF(X:Cx)(g:Ev->R (List D)):TA:=tG X (Reps X.K) g
noncomputable def PF(X:Cx)(e:Expr)(g:Ev->R D):Prop:=PE X e (tF X g)
noncomputable def PB(X:Cx)(e:Expr)(g:Ev->R Bool):Prop:=PT X e (tTF X g)
noncomputable def PBW(X:Cx)(e:Expr)(g:Ev->R Bool):Prop:=PW X e (tTF X g)
noncomputable def PFA(X:Cx)(es:List Expr)(g:Ev->R (List D)):Prop:=PA X es (tAF X g)
end L2
variable{d:L2.D}{ds rows:List L2.D}{ow:L2.kj}{ρ:L2.Ev}{gb ge:L2.Ev->L2.R L2.D}{gl gi:L2.Ev->L2.R (List L2.D)}{asg:L2.D->L2.Ev->L2.R L2.Ev}{gs:List (L2.Ev->L2.R L2.D)}{fs':List (Nat×L2.Fd)}{gr aq bD bi aM aG ba bc eR bS ay aU aO aS aI aL aE de fG:List L2.D->L2.R L2.D}{kv:List (Nat×L2.D)}
namespace L2
open PySem PySem.Spec PyProof.Rows
def rdV.ok{P:D->Prop}{E:Addr->Prop}(h:(rdV ρ i).post P E):∃d,ρ[i]?=some (some (.val d))/\P d:=by
 unfold rdV at h;split at h;·rename_i d e;exact⟨d,e,h⟩
 ·exact h.elim
section
variable{e a b c:Expr}{ga gc:Ev->R D}
def Ea(i:Nat)(hN:X.N[i]?=some x:=by rfl)(hv:Vis X.env.scope x:=by first|exact Or.inl rfl|exact Or.inr (Or.inl rfl)|exact Or.inr (Or.inr rfl))(hd:(x==("__debug__":Str))=false:=by decide)(hcd:(x==("__classdict__":Str))=false:=by decide):PF X (.Name x pos) (λρ=>rdV ρ i):=by
 intro pins s σ H Q I h;obtain⟨G,ρ,st,h⟩:=h;refine dA hN hv hd hcd pins s σ H Q I ?_;obtain⟨d,e,q⟩:=rdV.ok h;obtain⟨v,e',r⟩:=st.val i d e;exact⟨v,e',q v G H (.refl st.sub) r⟩
def iK(h:PE X e (tC v))(hr:∀K G,Rep K G v d):PF X e (λ_=>.ok d):=by intro pins s σ H Q I q;obtain⟨G,ρ,st,q⟩:=q;exact h pins s σ H Q I (q v G H (.refl st.sub) (hr _ _))
def ag{i:Int}:PF X (.Constant (.int i) j pos) (λ_=>.ok (.int i)):=iK Ke λ_ _=>.int i
def nP{k:Bool}:PF X (.Constant (.bool k) j pos) (λ_=>.ok (.bl k)):=iK LI λ_ _=>.bl k
def vE:PF X (.Constant .none j pos) (λ_=>.ok .non):=iK J2 λ_ _=>.non
def bh{l:List Nat}(hl:x.cps.toList=l:=by rfl)(hz:l.length<=1000:=by decide):PF X (.Constant (.str x) j pos) (λ_=>.ok (.str l)):=
 iK Jb λ_ _=>.strL hl (Nat.le_trans hz (by decide))
def fj{i:Int}{t:Tok}(hg:Gl X x)(hm:X.mg x=some (.int i t))(hd:(x==("__debug__":Str))=false:=by decide):PF X (.Name x pos) (λ_=>.ok (.int i)):=
 iK (pI (v:=.int i) hg hm ⟨t,rfl⟩ hd) λ_ _=>.int i
noncomputable def ROk(K:PySem.W.Frag)(r:R2)(f:D->D->Option D):Prop:=∀(G H:Hp)(x y:V)(dx dy d:D)(Q:VK),Same G H->Rep K G x dx->Rep K G y dy->f dx dy=some d->Fin G H (Rep K) Q d->r x y H Q
noncomputable def g2(f:D->D->Option D)(ga gb:Ev->R D):Ev->R D:=λρ=>ga ρ>>=λx=>gb ρ>>=λy=>ofO (f x y)
def B7{r:R2}{f:D->D->Option D}(hf:ROk X.K r f){Q:VK}(h:tF X (g2 f ga gb) σ H Q):tOp r (tF X ga) (tF X gb) σ H Q:=by obtain⟨G,ρ,st,h⟩:=h;refine tG.intro st h λx v G1 H1 u1 st1 r1 h1=>?_;refine tG.intro st1 h1 λy w G2 H2 u2 st2 r2 h2=>?_;obtain⟨d,e,q⟩:=ofO.ok h2;exact hf G2 H2 v w x y d Q st2.sub (r1.mono u2.gg) r2 e q
def sV{op:Operator}{r:R2}{f:D->D->Option D}(ho:OpR X (binaryOp op) r)(hf:ROk X.K r f)(ha:PF X a ga)(hb:PF X b gb):PF X (.BinOp a op b pos) (g2 f ga gb):=
 λpins s σ H Q I h=>K3 ho ha hb pins s σ H Q I (B7 hf h)
def DN{op:CmpOp}{r:R2}{f:D->D->Option D}(ho:OpR X (compareOp op) r)(hf:ROk X.K r f)(ha:PF X a ga)(hb:PF X b gb)(hm:behindInMarks op b=false):PF X (.Compare a [op] [b] pos) (g2 f ga gb):=
 λpins s σ H Q I h=>ED ho ha hb hm pins s σ H Q I (B7 hf h)
noncomputable def g3(f f':D->D->Option D)(ga gb gc:Ev->R D):Ev->R D:=λρ=>ga ρ>>=λx=>gb ρ>>=λy=>ofO (f x y)>>=λz=>match z with
 |.bl true=>gc ρ>>=λw=>ofO (f' y w)
 |.bl false=>.ok (.bl false)
 |_=>.no
def wo{op op':CmpOp}{r r':R2}{f f':D->D->Option D}(ho:OpR X (compareOp op) r)(ho':OpR X (compareOp op') r')(hf:ROk X.K r f)(hf':ROk X.K r' f')(ha:PF X a ga)(hb:PF X b gb)(hc:PF X c gc)(hm:lastMarks [op,op'] [b,c]=false:=by with_unfolding_all rfl):PF X (.Compare a [op,op'] [b,c] pos) (g3 f f' ga gb gc):=by
 intro pins s σ H Q I h;refine CH ho ho' ha hb hc hm pins s σ H Q I ?_;obtain⟨G,ρ,st,h⟩:=h;refine tG.intro st h λx v G1 H1 u1 st1 r1 h1=>?_;refine tG.intro st1 h1 λy w G2 H2 u2 st2 r2 h2=>?_;cases e:f x y with
 |none=>rw[e]at h2;exact h2.elim
 |some d=>
  rw[e]at h2;refine hf G2 H2 v w x y d _ st2.sub (r1.mono u2.gg) r2 e λz G3 H3 u3 r3=>?_;have h3:=pE u3 h2;have st3:=st2.up u3;cases r3 with
  |bl k=>
   refine⟨k,rfl,?_⟩;cases k with
   |false=>rw[if_neg Bool.false_ne_true];exact h3 _ G3 H3 (.refl st3.sub) (.bl false)
   |true=>refine tG.intro st3 (show(gc ρ>>=λw=>ofO (f' y w)).post _ _ from h3) λq vq G4 H4 u4 st4 r4 h4=>?_;obtain⟨d,e',q'⟩:=ofO.ok h4;exact hf' G4 H4 w vq y q d Q st4.sub ((r2.mono u3.gg).mono u4.gg) r4 e' q'
  |_=>exact h3.elim
end
section
noncomputable def bJ:D->D->Option D
 |.int i,.int j=>some (.int (i+j))
 |.str x,.str y=>if x.length+y.length<=sizeLine then some (.str (x++y))else none
 |.lst false xs,.lst false ys=>if xs.length+ys.length<=sizeLine then some (.lst false (xs++ys))else none
 |.tup xs,.tup ys=>if xs.length+ys.length<=sizeLine then some (.tup (xs++ys))else none
 |_,_=>none
noncomputable def DK(K:PySem.W.Frag):R2:=λx y H Q=>∃a b xs ys,x=.ref a/\y=.ref b/\SqT K H a xs/\SqT K H b ys/\xs.length+ys.length<=sizeLine/\
 (xs=[]->Q (.ref b) H)/\(xs≠[]->ys=[]->Q (.ref a) H)/\(xs≠[]->ys≠[]->∀p,H p=none->Q (.ref p) (upd H p (.tup (xs++ys))))
def CQ:OpR X (binaryOp .Add) (DK X.K):=by
 intro pins s σ H x y v u Q I rx ry h;obtain⟨a,b,xs,ys,rfl,rfl,ha,hb,hz,q0,q1,q2⟩:=h;by_cases hx:xs=[]
 ·cases rx;cases ry;obtain⟨its,r1,p1,_⟩:=I.tuple ha;obtain⟨its2,r2,p2,_⟩:=I.tuple hb;have hi:=r1.nil_iff.mpr hx;obtain⟨⟨cls,dd,data,sl⟩,ho,hc,n,hd⟩:=id p1;obtain⟨⟨cls2,dd2,data2,sl2⟩,ho2,hc2,n2,hd2⟩:=id p2;subst hc hd hc2 hd2;exact concat_meets ⟨_,ho,rfl⟩ ⟨_,ho2,rfl⟩ noFill_tuple_add seq_tuple_add PySem.F.slot_tuple_add PySem.F.entry_tuple_add (PySem.F.args_tuple_add_2 _ _)
   (tuple_addW0 a b its.toArray its2.toArray n n2 dd dd2 sl sl2 (by simp[hi])) ⟨ho,ho2,.ref b,H,I,rfl,q0 hx⟩
 ·exact Gv pins s σ H _ _ v u Q I rx ry ⟨a,b,xs,ys,rfl,rfl,ha,hb,hx,hz,q1 hx,q2 hx⟩
noncomputable def Ir(K:PySem.W.Frag):R2:=λx y H Q=>(rI0 λi j=>.int (i+j)) x y H Q\/(∃i j,x=.str i/\y=.str j/\i.length+j.length<=sizeLine/\Q (.str (i++j)) H)\/MV x y H Q\/DK K x y H Q
def ES:OpR X (binaryOp .Add) (Ir X.K):=op_add.or (op_add_str.or (op_cat.or CQ))
def Str.app_list(x y:Str):(x++y).cps.toList=x.cps.toList++y.cps.toList:=by show(x.cps++y.cps).toList=_;simp
def Str.len_list(x:Str):x.cps.toList.length=x.length:=by simp[Str.length]
def Jm(K:PySem.W.Frag):ROk K (Ir K) bJ:=by
 intro G H x y dx dy d Q s rx ry e q;unfold bJ at e;split at e;·cases e;exact .inl ⟨_,_,rx.int_inv,ry.int_inv,q _ G H (.refl s) (.int _)⟩
 ·split at e;·rename_i hz;cases e;obtain⟨i,rfl,ei,hi⟩:=rx.str_inv;obtain⟨j,rfl,ej,hj⟩:=ry.str_inv;subst ei ej;exact .inr (.inl ⟨i,j,rfl,rfl,hz,q _ G H (.refl s) (.strL (Str.app_list i j) (by rw[List.length_append,Str.len_list,Str.len_list];exact hz))⟩)
  ·cases e
 ·split at e;·rename_i hz;cases e;obtain⟨a,vs,rfl,ha,ra⟩:=rx.lst_inv;obtain⟨b,ws,rfl,hb,rb⟩:=ry.lst_inv;refine .inr (.inr (.inl ⟨a,b,vs,ws,rfl,rfl,s _ _ ha,s _ _ hb,by rw[ra.length,rb.length];exact hz,λp hp=>q _ _ _ (.new s hp) (.lst aF ?_)⟩));exact(ra.append rb).mono (.into (s.free hp))
  ·cases e
 ·split at e
  ·rename_i hz;cases e;obtain⟨a,vs,rfl,ha,ra⟩:=rx.tup_inv;obtain⟨b,ws,rfl,hb,rb⟩:=ry.tup_inv;refine .inr (.inr (.inr ⟨a,b,vs,ws,rfl,rfl,ha.mono s,hb.mono s,by rw[ra.length,rb.length];exact hz,λz=>?_,λ_ z=>?_,λ_ _ p hp=>?_⟩));·subst z;cases ra;exact q _ G H (.refl s) (.tup hb rb)
   ·subst z;cases rb;rw[List.append_nil]at q;exact q _ G H (.refl s) (.tup ha ra)
   ·exact q _ _ _ (.new s hp) (.tup (.of aF) ((ra.append rb).mono (.into (s.free hp))))
  ·cases e
 ·cases e
def aK{a b:Expr}{ga:Ev->R D}(ha:PF X a ga)(hb:PF X b gb):PF X (.BinOp a .Add b pos) (g2 bJ ga gb):=sV ES (Jm _) ha hb
noncomputable def wB:D->D->Option D
 |.int i,.int j=>some (.int (i - j))
 |_,_=>none
def mq{a b:Expr}{ga:Ev->R D}(ha:PF X a ga)(hb:PF X b gb):PF X (.BinOp a .Sub b pos) (g2 wB ga gb):=sV Hk (by
 intro G H x y dx dy d Q s rx ry e q;unfold wB at e;split at e;·cases e;exact⟨_,_,rx.int_inv,ry.int_inv,q _ G H (.refl s) (.int _)⟩
 ·cases e) ha hb
noncomputable def Ch:D->D->Option D
 |.int i,.int j=>if 0<j/\j<1073741824 then some (.int (i / j))else none
 |_,_=>none
def GP{a b:Expr}{ga:Ev->R D}(ha:PF X a ga)(hb:PF X b gb):PF X (.BinOp a .FloorDiv b pos) (g2 Ch ga gb):=sV FN (by
 intro G H x y dx dy d Q s rx ry e q;unfold Ch at e;split at e
 ·split at e;·rename_i hc;cases e;exact⟨_,_,rx.int_inv,ry.int_inv,hc,q _ G H (.refl s) (.int _)⟩
  ·cases e
 ·cases e) ha hb
noncomputable def zC:D->D->Option D
 |.int i,.int j=>if 0<j then some (.int (i % j))else none
 |_,_=>none
def wl{a b:Expr}{ga:Ev->R D}(ha:PF X a ga)(hb:PF X b gb):PF X (.BinOp a .Mod b pos) (g2 zC ga gb):=sV JK (by
 intro G H x y dx dy d Q s rx ry e q;unfold zC at e;split at e
 ·split at e;·rename_i hc;cases e;exact⟨_,_,rx.int_inv,ry.int_inv,hc,q _ G H (.refl s) (.int _)⟩
  ·cases e
 ·cases e) ha hb
end
section
variable{a b c e:Expr}{ga gc:Ev->R D}
noncomputable def leD:D->D->Option D
 |.int i,.int j=>some (.bl (decide (i<=j)))
 |.str x,.str y=>some (.bl (!decide (y<x)))
 |_,_=>none
noncomputable def ltD:D->D->Option D
 |.int i,.int j=>some (.bl (decide (i<j)))
 |.str x,.str y=>some (.bl (decide (x<y)))
 |_,_=>none
noncomputable def gtD:D->D->Option D
 |.int i,.int j=>some (.bl (decide (j<i)))
 |_,_=>none
noncomputable def geD:D->D->Option D
 |.int i,.int j=>some (.bl (decide (j<=i)))
 |_,_=>none
def yW:OpR X (compareOp .LtE) (λx y H Q=>∃i j:Str,x=.str i/\y=.str j/\Q (.bl (!decide (j.cps.toList<i.cps.toList))) H):=by intro pins s σ H x y v u Q I rx ry h;obtain⟨i,j,rfl,rfl,q⟩:=h;obtain⟨t,rfl⟩:=rx;obtain⟨t',rfl⟩:=ry;exact PySem.P.le_str (zS I q rfl)
def wO(K:PySem.W.Frag):ROk K (λx y H Q=>(rI0 λi j=>.bl (decide (i<=j))) x y H Q\/∃i j:Str,x=.str i/\y=.str j/\Q (.bl (!decide (j.cps.toList<i.cps.toList))) H) leD:=by
 intro G H x y dx dy d Q s rx ry e q;unfold leD at e;split at e;·cases e;exact .inl ⟨_,_,rx.int_inv,ry.int_inv,q _ G H (.refl s) (.bl _)⟩
 ·cases e;obtain⟨i,rfl,ei,hi⟩:=rx.str_inv;obtain⟨j,rfl,ej,hj⟩:=ry.str_inv;subst ei ej;exact .inr ⟨i,j,rfl,rfl,q _ G H (.refl s) (.bl _)⟩
 ·cases e
def K9(K:PySem.W.Frag):ROk K (λx y H Q=>(rI0 λi j=>.bl (decide (i<j))) x y H Q\/∃i j:Str,x=.str i/\y=.str j/\Q (.bl (decide (i.cps.toList<j.cps.toList))) H) ltD:=by
 intro G H x y dx dy d Q s rx ry e q;unfold ltD at e;split at e;·cases e;exact .inl ⟨_,_,rx.int_inv,ry.int_inv,q _ G H (.refl s) (.bl _)⟩
 ·cases e;obtain⟨i,rfl,ei,hi⟩:=rx.str_inv;obtain⟨j,rfl,ej,hj⟩:=ry.str_inv;subst ei ej;exact .inr ⟨i,j,rfl,rfl,q _ G H (.refl s) (.bl _)⟩
 ·cases e
def Lc(K:PySem.W.Frag):ROk K (rI0 λi j=>.bl (decide (j<i))) gtD:=by
 intro G H x y dx dy d Q s rx ry e q;unfold gtD at e;split at e;·cases e;exact⟨_,_,rx.int_inv,ry.int_inv,q _ G H (.refl s) (.bl _)⟩
 ·cases e
def FC(K:PySem.W.Frag):ROk K (rI0 λi j=>.bl (decide (j<=i))) geD:=by
 intro G H x y dx dy d Q s rx ry e q;unfold geD at e;split at e;·cases e;exact⟨_,_,rx.int_inv,ry.int_inv,q _ G H (.refl s) (.bl _)⟩
 ·cases e
def oK:OpR X (compareOp .LtE) (λx y H Q=>(rI0 λi j=>.bl (decide (i<=j))) x y H Q\/∃i j:Str,x=.str i/\y=.str j/\Q (.bl (!decide (j.cps.toList<i.cps.toList))) H):=op_le.or yW
def Ix:OpR X (compareOp .Lt) (λx y H Q=>(rI0 λi j=>.bl (decide (i<j))) x y H Q\/∃i j:Str,x=.str i/\y=.str j/\Q (.bl (decide (i.cps.toList<j.cps.toList))) H):=op_lt.or zc
def KQ(ha:PF X a ga)(hb:PF X b gb):PF X (.Compare a [.LtE] [b] pos) (g2 leD ga gb):=DN oK (wO _) ha hb (jh _)
def uS(ha:PF X a ga)(hb:PF X b gb)(hc:PF X c gc)(hm:lastMarks [.LtE,.LtE] [b,c]=false:=by with_unfolding_all rfl):PF X (.Compare a [.LtE,.LtE] [b,c] pos) (g3 leD leD ga gb gc):=wo oK oK (wO _) (wO _) ha hb hc hm
end
noncomputable def eqZ(f:D->D->Option Bool):List D->List D->Option (List Bool)
 |x::xs,y::ys=>(f x y).bind λb=>(eqZ f xs ys).map (b::·)
 |_,_=>some []
noncomputable def eqD:Nat->D->D->Option Bool
 | 0,_,_=>none
 |n+1,a,b=>match a,b with
  |.non,.non=>some true
  |.bl x,.bl y=>some (x==y)
  |.int i,.int j=>some (i==j)
  |.str x,.str y=>some (x==y)
  |.bl x,.int j=>some ((if x then 1 else 0)==j)
  |.int i,.bl y=>some (i==(if y then 1 else 0))
  |.lst _ xs,.lst _ ys=>if xs.length=ys.length then (eqZ (eqD n) xs ys).map λbs=>bs.all id else some false
  |.tup xs,.tup ys=>(eqZ (eqD n) xs ys).map λbs=>bs.all id && xs.length==ys.length
  |.exc _,_=>none
  |.dct _ _,_=>none
  |_,.exc _=>none
  |_,.dct _ _=>none
  |_,_=>some false
theorem eqZ.get{f:D->D->Option Bool}:∀{xs ys:List D}{bs:List Bool},eqZ f xs ys=some bs->bs.length=min xs.length ys.length/\∀(j:Nat)(x y:D),xs[j]?=some x->ys[j]?=some y->∃b,bs[j]?=some b/\f x y=some b
 | [],_,_,e=>by simp[eqZ]at e;subst e;exact⟨by simp,λj x y h=>by simp at h⟩
 |_::_,[],_,e=>by simp[eqZ]at e;subst e;exact⟨by simp,λj x y _ h=>by simp at h⟩
 |x::xs,y::ys,bs,e=>by
  unfold eqZ at e;cases e1:f x y with
  |none=>rw[e1]at e;cases e
  |some b=>
   rw[e1]at e;cases e2:eqZ f xs ys with
   |none=>rw[e2]at e;cases e
   |some cs=>
    rw[e2]at e;cases e;obtain⟨h1,h2⟩:=eqZ.get e2;refine⟨by simp[h1],λj=>?_⟩;cases j with
    |zero=>intro x' y' hx hy;simp at hx hy;subst hx hy;exact⟨b,rfl,e1⟩
    |succ j=>intro x' y' hx hy;exact h2 j x' y' (by simpa using hx) (by simpa using hy)
def ma{bs:List Bool}{n:Nat}(h:bs.length=n):(List.range n).all (λj=>bs.getD j true)=bs.all id:=by
 subst h;rw[Bool.eq_iff_iff,List.all_eq_true,List.all_eq_true];constructor;·intro h b hb;obtain⟨i,hi,rfl⟩:=List.mem_iff_getElem.mp hb;have:=h i (by simpa using hi);simpa[List.getD_eq_getElem?_getD,hi]using this
 ·intro h j hj;have hj':j<bs.length:=by simpa using hj
  have:=h bs[j] (List.getElem_mem hj');simpa[List.getD_eq_getElem?_getD,hj']using this
def dN:(Value.type "list":Value)≠.type "tuple":=by intro h;exact absurd h (by decide)
section
open SeqAt
def fY(I:Inv X pins σ H s)(sub:Same G H):∀(n:Nat)(a b:D)(k:Bool)(x:V),eqD n a b=some k->Rep X.K G x a->Rep X.K G x b->k=true:=by
 intro n;induction n with
 |zero=>intro a b k x e;cases e
 |succ n ih=>
  have sq:∀(vs:List V)(xs ys:List D),Reps X.K G vs xs->Reps X.K G vs ys->∀bs,eqZ (eqD n) xs ys=some bs->bs.all id=true:=by
   intro vs;induction vs with
   |nil=>intro xs ys h1 h2 bs e;cases h1;cases h2;simp[eqZ]at e;subst e;rfl
   |cons v vs ihv=>
    intro xs ys h1 h2 bs e;cases h1 with
    |cons r1 t1=>
     cases h2 with
     |cons r2 t2=>
      unfold eqZ at e;rename_i d1 ds1 d2 ds2;cases e1:eqD n d1 d2 with
      |none=>rw[e1]at e;cases e
      |some b=>
       rw[e1]at e;cases e2:eqZ (eqD n) ds1 ds2 with
       |none=>rw[e2]at e;cases e
       |some cs=>rw[e2]at e;cases e;rw[List.all_cons,ih _ _ _ _ e1 r1 r2,ihv _ _ t1 t2 _ e2];rfl
  intro a b k x e ra rb;cases ra with
  |non=>cases rb;simp[eqD]at e;exact e
  |bl y=>cases rb;simp[eqD]at e;exact e
  |int i=>cases rb;simp[eqD]at e;exact e
  |str y h=>
   cases rb with
   |str z h'=>simp[eqD]at e;exact e
  |tup h r=>
   cases rb with
   |tup h' r'=>
    have q:=I.tuple_inj (h.mono sub) (h'.mono sub);subst q;simp only[eqD]at e;rename_i ds es;cases e2:eqZ (eqD n) ds es with
    |none=>rw[e2]at e;cases e
    |some cs=>rw[e2]at e;have this:(cs.all id && ds.length==es.length)=k:=Option.some.inj e;rw[sq _ _ _ r r' _ e2,Bool.true_and]at this;rw[<- this,<- r.length,<- r'.length];simp
   |lst h' r'=>obtain⟨its,_,⟨o,e1,c1,_⟩,_⟩:=I.tuple (h.mono sub);obtain⟨_,its',n',_,e2⟩:=I.hok _ _ (sub _ _ h');rw[e1]at e2;cases e2;exact absurd c1 dN
   |fls h' r'=>obtain⟨its,_,⟨o,e1,c1,_⟩,_⟩:=I.tuple (h.mono sub);obtain⟨its',_,⟨o',n',e2,c2,_⟩,_⟩:=I.list (h'.mono sub);rw[e1]at e2;cases e2;rw[c1]at c2;exact absurd c2.symm dN
   |exc h'=>simp[eqD]at e
   |dct _ _ _=>simp[eqD]at e
  |lst h r=>
   have hl:SqL X.K G _ _:=SqL.of h;cases rb with
   |tup h' r'=>obtain⟨its,_,⟨o,e1,c1,_⟩,_⟩:=I.tuple (h'.mono sub);obtain⟨_,its',n',_,e2⟩:=I.hok _ _ (sub _ _ h);rw[e1]at e2;cases e2;exact absurd c1 dN
   |lst h' r'=>
    rw[h]at h';cases h';simp only[eqD]at e;rw[if_pos (by rw[<- r.length,<- r'.length])]at e;rename_i ds es;cases e2:eqZ (eqD n) ds es with
    |none=>rw[e2]at e;cases e
    |some cs=>rw[e2]at e;have:=Option.some.inj e;rw[<- this];exact sq _ _ _ r r' _ e2
   |fls h' r'=>
    have q:=I.list_inj (hl.mono sub) (h'.mono sub);subst q;simp only[eqD]at e;rw[if_pos (by rw[<- r.length,<- r'.length])]at e;rename_i ds es;cases e2:eqZ (eqD n) ds es with
    |none=>rw[e2]at e;cases e
    |some cs=>rw[e2]at e;have:=Option.some.inj e;rw[<- this];exact sq _ _ _ r r' _ e2
   |exc h'=>simp[eqD]at e
   |dct _ _ _=>simp[eqD]at e
  |fls h r=>
   cases rb with
   |tup h' r'=>obtain⟨its,_,⟨o,e1,c1,_⟩,_⟩:=I.tuple (h'.mono sub);obtain⟨its',_,⟨o',n',e2,c2,_⟩,_⟩:=I.list (h.mono sub);rw[e1]at e2;cases e2;rw[c1]at c2;exact absurd c2.symm dN
   |lst h' r'=>
    have q:=I.list_inj (h.mono sub) ((SqL.of h':SqL X.K G _ _).mono sub);subst q;simp only[eqD]at e;rw[if_pos (by rw[<- r.length,<- r'.length])]at e;rename_i ds es;cases e2:eqZ (eqD n) ds es with
    |none=>rw[e2]at e;cases e
    |some cs=>rw[e2]at e;have:=Option.some.inj e;rw[<- this];exact sq _ _ _ r r' _ e2
   |fls h' r'=>
    have q:=I.list_inj (h.mono sub) (h'.mono sub);subst q;simp only[eqD]at e;rw[if_pos (by rw[<- r.length,<- r'.length])]at e;rename_i ds es;cases e2:eqZ (eqD n) ds es with
    |none=>rw[e2]at e;cases e
    |some cs=>rw[e2]at e;have:=Option.some.inj e;rw[<- this];exact sq _ _ _ r r' _ e2
   |exc h'=>simp[eqD]at e
   |dct _ _ _=>simp[eqD]at e
  |exc h=>simp[eqD]at e
  |dct _ _ _=>simp[eqD]at e
structure Eqs(A:Around)(s:Shared)(v u:Value)(k:Bool):Prop where
 eq:EqAt A s v u k
 rc:RcAt A s v u k
 ne:RcNeAt A s v u (!k)
def ju{f:Bool}{x:V}(I:Inv X pins σ H s)(sub:Same G H)(r:Rep X.K G x (.lst f ds))(ru:RelV x u):∃a its vs,u=.ref a/\s.heap.IsList a (List.toArray its)/\Vals vs its/\Reps X.K G vs ds:=by obtain⟨a,vs,rfl,h,t⟩:=r.seq_inv;cases ru;obtain⟨its,rv,⟨o,n,e1,c1,_,d1⟩,_⟩:=I.list (h.mono sub);exact⟨a,its,vs,rfl,⟨o,e1,c1,n,d1⟩,rv,t⟩
def mF{x:V}(I:Inv X pins σ H s)(sub:Same G H)(r:Rep X.K G x (.tup ds))(ru:RelV x u):∃a its vs,u=.ref a/\s.heap.IsTuple a (List.toArray its)/\Vals vs its/\Reps X.K G vs ds:=by obtain⟨a,vs,rfl,h,t⟩:=r.tup_inv;cases ru;obtain⟨its,rv,p,_⟩:=I.tuple (h.mono sub);exact⟨a,its,vs,rfl,p,rv,t⟩
def A1(I:Inv X pins σ H s)(sub:Same G H):∀(n:Nat)(A:Around)(a b:D)(k:Bool)(x y:V)(v u:Value),A.units+n<cLine->eqD n a b=some k->Rep X.K G x a->Rep X.K G y b->RelV x v->RelV y u->Eqs A s v u k:=by
 intro n;induction n with
 |zero=>intro A a b k x y v u _ e;cases e
 |succ n ih=>
  have sq:∀(A:Around)(vs ws:List V)(xs ys:List D)(is js:List Value)(bs:List Bool),A.units+(n+1)<cLine->Reps X.K G vs xs->Reps X.K G ws ys->Vals vs is->Vals ws js->eqZ (eqD n) xs ys=some bs->
    bs.length=min is.length js.length/\∀j (h1:j<is.toArray.size) (h2:j<js.toArray.size),EqAt A.in1 s is.toArray[j] js.toArray[j] (bs.getD j true):=by
   intro A vs ws xs ys is js bs hA r1 r2 v1 v2 e;obtain⟨h1,h2⟩:=eqZ.get e;refine⟨by rw[h1,<- r1.length,<- r2.length,v1.length,v2.length],λj q1 q2=>?_⟩;rw[List.size_toArray]at q1 q2;have p1:j<xs.length:=by rw[<- r1.length,v1.length];exact q1
   have p2:j<ys.length:=by rw[<- r2.length,v2.length];exact q2
   obtain⟨b,e1,e2⟩:=h2 j xs[j] ys[j] (by simp[p1]) (by simp[p2]);obtain⟨x',ex,rx⟩:=r1.get (i:=j) (d:=xs[j]) (by simp[p1]);obtain⟨y',ey,ry⟩:=r2.get (i:=j) (d:=ys[j]) (by simp[p2]);obtain⟨u1,eu1,ru1⟩:=v1.get ex;obtain⟨u2,eu2,ru2⟩:=v2.get ey;have g1:is.toArray[j]=u1:=by simpa[q1]using eu1
   have g2:js.toArray[j]=u2:=by simpa[q2]using eu2
   rw[List.getD_eq_getElem?_getD,e1];rw[g1,g2];exact(ih A.in1 _ _ b x' y' u1 u2 (by show A.units+1+n<cLine;omega) e2 rx ry ru1 ru2).eq
  intro A a b k x y v u hA e ra rb rv ru;have hu:A.units<cLine:=by omega
  have same:∀c d:Addr,v=.ref c->u=.ref d->c=d->k=true:=λc d h1 h2 h3=>by
   subst h1 h2 h3;cases ra with
   |tup h r=>cases rv;cases rb with
    |tup h' r'=>cases ru;exact fY I sub (n+1) _ _ k _ e (.tup h r) (.tup h' r')
    |lst h' r'=>cases ru;exact fY I sub (n+1) _ _ k _ e (.tup h r) (.lst h' r')
    |fls h' r'=>cases ru;exact fY I sub (n+1) _ _ k _ e (.tup h r) (.fls h' r')
    |exc h'=>simp[eqD]at e
    |dct _ _ _=>simp[eqD]at e
    |str _ _=>obtain⟨t,z⟩:=ru;cases z
    |int _=>obtain⟨t,z⟩:=ru;cases z
    |non=>cases ru
    |bl _=>cases ru
   |lst h r=>cases rv;cases rb with
    |tup h' r'=>cases ru;exact fY I sub (n+1) _ _ k _ e (.lst h r) (.tup h' r')
    |lst h' r'=>cases ru;exact fY I sub (n+1) _ _ k _ e (.lst h r) (.lst h' r')
    |fls h' r'=>cases ru;exact fY I sub (n+1) _ _ k _ e (.lst h r) (.fls h' r')
    |exc h'=>simp[eqD]at e
    |dct _ _ _=>simp[eqD]at e
    |str _ _=>obtain⟨t,z⟩:=ru;cases z
    |int _=>obtain⟨t,z⟩:=ru;cases z
    |non=>cases ru
    |bl _=>cases ru
   |fls h r=>cases rv;cases rb with
    |tup h' r'=>cases ru;exact fY I sub (n+1) _ _ k _ e (.fls h r) (.tup h' r')
    |lst h' r'=>cases ru;exact fY I sub (n+1) _ _ k _ e (.fls h r) (.lst h' r')
    |fls h' r'=>cases ru;exact fY I sub (n+1) _ _ k _ e (.fls h r) (.fls h' r')
    |exc h'=>simp[eqD]at e
    |dct _ _ _=>simp[eqD]at e
    |str _ _=>obtain⟨t,z⟩:=ru;cases z
    |int _=>obtain⟨t,z⟩:=ru;cases z
    |non=>cases ru
    |bl _=>cases ru
   |exc h=>simp[eqD]at e
   |dct _ _ _=>simp[eqD]at e
   |str _ _=>obtain⟨t,z⟩:=rv;cases z
   |int _=>obtain⟨t,z⟩:=rv;cases z
   |non=>cases rv
   |bl _=>cases rv
  have refs:∀c d:Addr,v=.ref c->u=.ref d->RcAt A s v u k->EqAt A s v u k:=λc d h1 h2 h=>by
   subst h1 h2;by_cases h3:c=d;·have:=same c d rfl rfl h3;subst h3 this;exact EqAt.same _
   ·exact EqAt.of_refs h3 h
  cases a with
  |exc C=>simp[eqD]at e
  |dct _ _=>simp[eqD]at e
  |non=>
   obtain rfl:=ra.non_inv;cases rv;cases b with
   |exc C=>simp[eqD]at e
   |dct _ _=>simp[eqD]at e
   |non=>obtain rfl:=rb.non_inv;cases ru;simp[eqD]at e;subst e;exact⟨EqAt.same _,RcAt.none_none,RcNeAt.none_none⟩
   |bl z=>obtain rfl:=rb.bl_inv;cases ru;simp[eqD]at e;subst e;exact⟨EqAt.none_bool _,RcAt.none_bool _,RcNeAt.none_bool _⟩
   |int z=>obtain rfl:=rb.int_inv;obtain⟨t,rfl⟩:=ru;simp[eqD]at e;subst e;exact⟨EqAt.none_int _ _,RcAt.none_int _ _,RcNeAt.none_int _ _⟩
   |str z=>obtain⟨z,rfl,-,-⟩:=rb.str_inv;obtain⟨t,rfl⟩:=ru;simp[eqD]at e;subst e;exact⟨EqAt.none_str _ _,RcAt.none_str _ _,RcNeAt.none_str _ _⟩
   |tup ds=>obtain⟨c,its,vs,rfl,p,_,_⟩:=mF I sub rb ru;simp[eqD]at e;subst e;exact⟨EqAt.none_tuple p hu,RcAt.none_tuple p hu,RcNeAt.none_tuple p hu⟩
   |lst f ds=>obtain⟨c,its,vs,rfl,p,_,_⟩:=ju I sub rb ru;simp[eqD]at e;subst e;exact⟨EqAt.none_list p hu,RcAt.none_list p hu,RcNeAt.none_list p hu⟩
  |bl w=>
   obtain rfl:=ra.bl_inv;cases rv;cases b with
   |exc C=>simp[eqD]at e
   |dct _ _=>simp[eqD]at e
   |non=>obtain rfl:=rb.non_inv;cases ru;simp[eqD]at e;subst e;exact⟨EqAt.bool_none _,RcAt.bool_none _,RcNeAt.bool_none _⟩
   |bl z=>obtain rfl:=rb.bl_inv;cases ru;simp only[eqD]at e;cases e;exact⟨EqAt.bool_bool _ _,RcAt.bool_bool _ _,RcNeAt.bool_bool _ _⟩
   |int z=>obtain rfl:=rb.int_inv;obtain⟨t,rfl⟩:=ru;simp only[eqD]at e;cases e;exact⟨EqAt.bool_int _ _ _,RcAt.bool_int _ _ _,RcNeAt.bool_int _ _ _⟩
   |str z=>obtain⟨z,rfl,-,-⟩:=rb.str_inv;obtain⟨t,rfl⟩:=ru;simp[eqD]at e;subst e;exact⟨EqAt.bool_str _ _ _,RcAt.bool_str _ _ _,RcNeAt.bool_str _ _ _⟩
   |tup ds=>obtain⟨c,its,vs,rfl,p,_,_⟩:=mF I sub rb ru;simp[eqD]at e;subst e;exact⟨EqAt.bool_tuple _ p hu,RcAt.bool_tuple _ p hu,RcNeAt.bool_tuple _ p hu⟩
   |lst f ds=>obtain⟨c,its,vs,rfl,p,_,_⟩:=ju I sub rb ru;simp[eqD]at e;subst e;exact⟨EqAt.bool_list _ p hu,RcAt.bool_list _ p hu,RcNeAt.bool_list _ p hu⟩
  |int w=>
   obtain rfl:=ra.int_inv;obtain⟨t0,rfl⟩:=rv;cases b with
   |exc C=>simp[eqD]at e
   |dct _ _=>simp[eqD]at e
   |non=>obtain rfl:=rb.non_inv;cases ru;simp[eqD]at e;subst e;exact⟨EqAt.int_none _ _,RcAt.int_none _ _,RcNeAt.int_none _ _⟩
   |bl z=>obtain rfl:=rb.bl_inv;cases ru;simp only[eqD]at e;cases e;exact⟨EqAt.int_bool _ _ _,RcAt.int_bool _ _ _,RcNeAt.int_bool _ _ _⟩
   |int z=>obtain rfl:=rb.int_inv;obtain⟨t,rfl⟩:=ru;simp only[eqD]at e;cases e;exact⟨EqAt.int_int _ _ _ _,RcAt.int_int _ _ _ _,RcNeAt.int_int _ _ _ _⟩
   |str z=>obtain⟨z,rfl,-,-⟩:=rb.str_inv;obtain⟨t,rfl⟩:=ru;simp[eqD]at e;subst e;exact⟨EqAt.int_str _ _ _ _,RcAt.int_str _ _ _ _,RcNeAt.int_str _ _ _ _⟩
   |tup ds=>obtain⟨c,its,vs,rfl,p,_,_⟩:=mF I sub rb ru;simp[eqD]at e;subst e;exact⟨EqAt.int_tuple _ _ p hu,RcAt.int_tuple _ _ p hu,RcNeAt.int_tuple _ _ p hu⟩
   |lst f ds=>obtain⟨c,its,vs,rfl,p,_,_⟩:=ju I sub rb ru;simp[eqD]at e;subst e;exact⟨EqAt.int_list _ _ p hu,RcAt.int_list _ _ p hu,RcNeAt.int_list _ _ p hu⟩
  |str w=>
   obtain⟨w,rfl,ew,-⟩:=ra.str_inv;obtain⟨t0,rfl⟩:=rv;cases b with
   |exc C=>simp[eqD]at e
   |dct _ _=>simp[eqD]at e
   |non=>obtain rfl:=rb.non_inv;cases ru;simp[eqD]at e;subst e;exact⟨EqAt.str_none _ _,RcAt.str_none _ _,RcNeAt.str_none _ _⟩
   |bl z=>obtain rfl:=rb.bl_inv;cases ru;simp[eqD]at e;subst e;exact⟨EqAt.str_bool _ _ _,RcAt.str_bool _ _ _,RcNeAt.str_bool _ _ _⟩
   |int z=>obtain rfl:=rb.int_inv;obtain⟨t,rfl⟩:=ru;simp[eqD]at e;subst e;exact⟨EqAt.str_int _ _ _ _,RcAt.str_int _ _ _ _,RcNeAt.str_int _ _ _ _⟩
   |str z=>obtain⟨z,rfl,ez,-⟩:=rb.str_inv;obtain⟨t,rfl⟩:=ru;simp only[eqD]at e;subst ew ez;rw[str_beq]at e;cases e;exact⟨EqAt.str_str _ _ _ _,RcAt.str_str _ _ _ _,RcNeAt.str_str _ _ _ _⟩
   |tup ds=>obtain⟨c,its,vs,rfl,p,_,_⟩:=mF I sub rb ru;simp[eqD]at e;subst e;exact⟨EqAt.str_tuple _ _ p hu,RcAt.str_tuple _ _ p hu,RcNeAt.str_tuple _ _ p hu⟩
   |lst f ds=>obtain⟨c,its,vs,rfl,p,_,_⟩:=ju I sub rb ru;simp[eqD]at e;subst e;exact⟨EqAt.str_list _ _ p hu,RcAt.str_list _ _ p hu,RcNeAt.str_list _ _ p hu⟩
  |tup ds1=>
   obtain⟨c1,its1,vs1,rfl,p1,w1,q1⟩:=mF I sub ra rv;cases b with
   |exc C=>simp[eqD]at e
   |dct _ _=>simp[eqD]at e
   |non=>obtain rfl:=rb.non_inv;cases ru;simp[eqD]at e;subst e;exact⟨EqAt.tuple_none p1 hu,RcAt.tuple_none p1 hu,RcNeAt.tuple_none p1 hu⟩
   |bl z=>obtain rfl:=rb.bl_inv;cases ru;simp[eqD]at e;subst e;exact⟨EqAt.tuple_bool _ p1 hu,RcAt.tuple_bool _ p1 hu,RcNeAt.tuple_bool _ p1 hu⟩
   |int z=>obtain rfl:=rb.int_inv;obtain⟨t,rfl⟩:=ru;simp[eqD]at e;subst e;exact⟨EqAt.tuple_int _ _ p1 hu,RcAt.tuple_int _ _ p1 hu,RcNeAt.tuple_int _ _ p1 hu⟩
   |str z=>obtain⟨z,rfl,-,-⟩:=rb.str_inv;obtain⟨t,rfl⟩:=ru;simp[eqD]at e;subst e;exact⟨EqAt.tuple_str _ _ p1 hu,RcAt.tuple_str _ _ p1 hu,RcNeAt.tuple_str _ _ p1 hu⟩
   |lst f ds=>obtain⟨c,its,vs,rfl,p,_,_⟩:=ju I sub rb ru;simp[eqD]at e;subst e;exact⟨EqAt.tuple_list p1 p hu,RcAt.tuple_list p1 p hu,RcNeAt.tuple_list p1 p hu⟩
   |tup ds2=>
    obtain⟨c2,its2,vs2,rfl,p2,w2,q2⟩:=mF I sub rb ru;simp only[eqD]at e;cases e2:eqZ (eqD n) ds1 ds2 with
    |none=>rw[e2]at e;cases e
    |some bs=>
     rw[e2]at e;have ek:=Option.some.inj e;obtain⟨hl,he⟩:=sq A _ _ _ _ _ _ bs hA q1 q2 w1 w2 e2;have e3:((List.range (min its1.toArray.size its2.toArray.size)).all (λj=>bs.getD j true) && its1.toArray.size==its2.toArray.size)=k:=by rw[<- ek,List.size_toArray,List.size_toArray,ma hl,<- w1.length,<- w2.length,q1.length,q2.length]
     have hrc:RcAt A s (.ref c1) (.ref c2) k:=by rw[<- e3];exact RcAt.tuples p1 p2 hu he
     have hne:RcNeAt A s (.ref c1) (.ref c2) (!k):=by rw[<- e3];exact RcNeAt.tuples p1 p2 hu he
     exact⟨refs _ _ rfl rfl hrc,hrc,hne⟩
  |lst f1 ds1=>
   obtain⟨c1,its1,vs1,rfl,p1,w1,q1⟩:=ju I sub ra rv;cases b with
   |exc C=>simp[eqD]at e
   |dct _ _=>simp[eqD]at e
   |non=>obtain rfl:=rb.non_inv;cases ru;simp[eqD]at e;subst e;exact⟨EqAt.list_none p1 hu,RcAt.list_none p1 hu,RcNeAt.list_none p1 hu⟩
   |bl z=>obtain rfl:=rb.bl_inv;cases ru;simp[eqD]at e;subst e;exact⟨EqAt.list_bool _ p1 hu,RcAt.list_bool _ p1 hu,RcNeAt.list_bool _ p1 hu⟩
   |int z=>obtain rfl:=rb.int_inv;obtain⟨t,rfl⟩:=ru;simp[eqD]at e;subst e;exact⟨EqAt.list_int _ _ p1 hu,RcAt.list_int _ _ p1 hu,RcNeAt.list_int _ _ p1 hu⟩
   |str z=>obtain⟨z,rfl,-,-⟩:=rb.str_inv;obtain⟨t,rfl⟩:=ru;simp[eqD]at e;subst e;exact⟨EqAt.list_str _ _ p1 hu,RcAt.list_str _ _ p1 hu,RcNeAt.list_str _ _ p1 hu⟩
   |tup ds=>obtain⟨c,its,vs,rfl,p,_,_⟩:=mF I sub rb ru;simp[eqD]at e;subst e;exact⟨EqAt.list_tuple p1 p hu,RcAt.list_tuple p1 p hu,RcNeAt.list_tuple p1 p hu⟩
   |lst f2 ds2=>
    obtain⟨c2,its2,vs2,rfl,p2,w2,q2⟩:=ju I sub rb ru;simp only[eqD]at e;by_cases hlen:ds1.length=ds2.length
    ·rw[if_pos hlen]at e;cases e2:eqZ (eqD n) ds1 ds2 with
     |none=>rw[e2]at e;cases e
     |some bs=>
      rw[e2]at e;have ek:=Option.some.inj e;obtain⟨hl,he⟩:=sq A _ _ _ _ _ _ bs hA q1 q2 w1 w2 e2;have hz:its1.toArray.size=its2.toArray.size:=by rw[List.size_toArray,List.size_toArray,<- w1.length,<- w2.length,q1.length,q2.length];exact hlen
      have e3:(List.range its1.toArray.size).all (λj=>bs.getD j true)=k:=by rw[<- ek,ma];rw[hl,List.size_toArray];simp only[List.size_toArray]at hz;omega
      have hrc:RcAt A s (.ref c1) (.ref c2) k:=by rw[<- e3];exact RcAt.lists p1 p2 hz hu he
      have hne:RcNeAt A s (.ref c1) (.ref c2) (!k):=by rw[<- e3];exact RcNeAt.lists p1 p2 hz hu he
      exact⟨refs _ _ rfl rfl hrc,hrc,hne⟩
    ·rw[if_neg hlen]at e;cases e;have hz:(its1.toArray.size != its2.toArray.size)=true:=by rw[List.size_toArray,List.size_toArray,<- w1.length,<- w2.length,q1.length,q2.length];simpa using hlen
     have hrc:=RcAt.lists_lengths p1 p2 hz hu;exact⟨refs _ _ rfl rfl hrc,hrc,RcNeAt.lists_lengths p1 p2 hz hu⟩
end
section
variable{a b:Expr}{ga:Ev->R D}
noncomputable def eqF(x y:D):Option D:=(eqD 40 x y).map .bl
noncomputable def neF(x y:D):Option D:=(eqD 40 x y).map λk=>.bl (!k)
noncomputable def KP(K:PySem.W.Frag)(neg:Bool):R2:=λx y H Q=>∃G dx dy k,Same G H/\Rep K G x dx/\Rep K G y dy/\eqD 40 dx dy=some k/\Q (.bl (if neg then !k else k)) H
def Er(hu:X.A.units+64<cLine):OpR X (compareOp .Eq) (KP X.K false):=by intro pins s σ H x y v u Q I rx ry h;obtain⟨G,dx,dy,k,sub,r1,r2,e,q⟩:=h;exact(A1 I sub 40 X.A dx dy k x y v u (by omega) e r1 r2 rx ry).rc _ _ _ _ ⟨.bl k,H,I,rfl,q⟩
def DS(hu:X.A.units+64<cLine):OpR X (compareOp .NotEq) (KP X.K true):=by intro pins s σ H x y v u Q I rx ry h;obtain⟨G,dx,dy,k,sub,r1,r2,e,q⟩:=h;exact(A1 I sub 40 X.A dx dy k x y v u (by omega) e r1 r2 rx ry).ne _ _ _ _ ⟨.bl (!k),H,I,rfl,q⟩
def vh(hu:X.A.units+64<cLine)(ha:PF X a ga)(hb:PF X b gb):PF X (.Compare a [.Eq] [b] pos) (g2 eqF ga gb):=DN (Er hu) (by
 intro G H x y dx dy d Q s rx ry e q;unfold eqF at e;cases e1:eqD 40 dx dy with
 |none=>rw[e1]at e;cases e
 |some k=>rw[e1]at e;cases e;exact⟨G,dx,dy,k,s,rx,ry,e1,q _ G H (.refl s) (.bl k)⟩) ha hb (jh _)
end
end L2
namespace L2
open PySem PySem.Spec PyProof.Rows
section
variable{a b c e:Expr}{cT:List Expr}{ga gc:Ev->R D}{gt gu:Ev->R Bool}
noncomputable def isD:D->D->Option Bool
 |.non,.non=>some true
 |_,.non=>some false
 |.bl x,.bl y=>some (x==y)
 |_,_=>none
noncomputable def isF(x y:D):Option D:=(isD x y).map .bl
noncomputable def rIs(neg:Bool):R2:=λx y H Q=>(y=.non/\Q (.bl (if neg then !decide (x=.non)else decide (x=.non))) H)\/∃i j,x=.bl i/\y=.bl j/\Q (.bl (if neg then !(i==j)else (i==j))) H
def Ku:OpR X (compareOp .Is) (rIs false):=op_isN.or (by intro pins s σ H x y v u Q I rx ry h;obtain⟨i,j,rfl,rfl,q⟩:=h;cases rx;cases ry;exact is_bool ⟨.bl _,H,I,rfl,q⟩)
def La(K:PySem.W.Frag)(neg:Bool):ROk K (rIs neg) (λx y=>(isD x y).map λk=>.bl (if neg then !k else k)):=by
 intro G H x y dx dy d Q s rx ry e q;dsimp only at e;cases e1:isD dx dy with
 |none=>rw[e1]at e;cases e
 |some k=>
  rw[e1]at e;have ed:=Option.some.inj e;subst ed;unfold isD at e1;split at e1;·cases e1;exact .inl ⟨ry.non_inv,by rw[rx.non_inv];exact q _ G H (.refl s) (.bl _)⟩
  ·rename_i hx;cases e1;have hn:x≠.non:=λz=>by subst z;cases rx;exact hx rfl
   refine .inl ⟨ry.non_inv,?_⟩;rw[decide_eq_false hn];exact q _ G H (.refl s) (.bl _)
  ·cases e1;exact .inr ⟨_,_,rx.bl_inv,ry.bl_inv,q _ G H (.refl s) (.bl _)⟩
  ·cases e1
noncomputable def asB:D->R Bool
 |.bl k=>.ok k
 |_=>.no
noncomputable def lA(ga gb:Ev->R D):Ev->R D:=λρ=>ga ρ>>=λx=>asB x>>=λk=>if k=true then gb ρ else .ok (.bl false)
noncomputable def gOr(ga gb:Ev->R D):Ev->R D:=λρ=>ga ρ>>=λx=>asB x>>=λk=>if k=true then .ok (.bl true)else gb ρ
noncomputable def MA(ga:Ev->R D):Ev->R D:=λρ=>ga ρ>>=λx=>asB x>>=λk=>.ok (.bl (!k))
def asB.ok{β:Type}{K:PySem.W.Frag}{k:Bool->R β}{P:β->Prop}{E:Addr->Prop}(r:Rep K G v d)(h:(asB d>>=k).post P E):∃c,v=.bl c/\d=.bl c/\(k c).post P E:=by
 cases r with
 |bl c=>exact⟨c,rfl,rfl,h⟩
 |_=>exact h.elim
def ic{op:BoolOp}(h:PF X a ga):PF X (.BoolOp op [a] pos) ga:=J4 h
def gN(ha:PF X a ga)(hb:PF X (.BoolOp .And (b::cT) pos) gb):PF X (.BoolOp .And (a::b::cT) pos) (lA ga gb):=by
 intro pins s σ H Q I h;refine Kd ha hb pins s σ H Q I ?_;obtain⟨G,ρ,st,h⟩:=h;refine tG.intro st h λx v G1 H1 u1 st1 r1 h1=>?_;obtain⟨c,ec,ed,h2⟩:=asB.ok r1 h1;subst ec ed;refine⟨c,rfl,?_⟩;cases c with
 |true=>rw[if_pos rfl]at h2⊢;exact tG.last st1 h2
 |false=>rw[if_neg Bool.false_ne_true]at h2⊢;exact h2 _ G1 H1 (.refl st1.sub) (.bl false)
def I8(ha:PF X a ga)(hb:PF X (.BoolOp .Or (b::cT) pos) gb):PF X (.BoolOp .Or (a::b::cT) pos) (gOr ga gb):=by
 intro pins s σ H Q I h;refine KZ ha hb pins s σ H Q I ?_;obtain⟨G,ρ,st,h⟩:=h;refine tG.intro st h λx v G1 H1 u1 st1 r1 h1=>?_;obtain⟨c,ec,ed,h2⟩:=asB.ok r1 h1;subst ec ed;refine⟨c,rfl,?_⟩;cases c with
 |true=>rw[if_pos rfl]at h2⊢;exact h2 _ G1 H1 (.refl st1.sub) (.bl true)
 |false=>rw[if_neg Bool.false_ne_true]at h2⊢;exact tG.last st1 h2
def Ho(ha:PF X a ga):PF X (.UnaryOp .Not a pos) (MA ga):=by intro pins s σ H Q I h;refine JU ha pins s σ H Q I ?_;obtain⟨G,ρ,st,h⟩:=h;refine tG.intro st h λx v G1 H1 u1 st1 r1 h1=>?_;obtain⟨c,ec,ed,h2⟩:=asB.ok r1 h1;subst ec ed;exact⟨c,rfl,h2 _ G1 H1 (.refl st1.sub) (.bl _)⟩
noncomputable def wZ:D->R D
 |.int i=>.ok (.int (-i))
 |_=>.no
def J3(ha:PF X a ga):PF X (.UnaryOp .USub a pos) (λρ=>ga ρ>>=wZ):=by
 intro pins s σ H Q I h;refine MB IL ha pins s σ H Q I ?_;obtain⟨G,ρ,st,h⟩:=h;refine tG.intro st h λx v G1 H1 u1 st1 r1 h1=>?_;cases r1 with
 |int i=>exact⟨i,rfl,h1 _ G1 H1 (.refl st1.sub) (.int _)⟩
 |_=>exact h1.elim
noncomputable def lG:D->R Bool
 |.non=>.ok false
 |.bl k=>.ok k
 |.int i=>.ok (i != 0)
 |.str x=>.ok (!x.isEmpty)
 |.tup xs=>.ok (!xs.isEmpty)
 |.lst _ xs=>.ok (!xs.isEmpty)
 |.exc _=>.no
 |.dct _ _=>.no
def Reps.isEmpty{K:PySem.W.Frag}(r:Reps K G vs ds):vs.isEmpty=ds.isEmpty:=by cases r <;> rfl
def AX(h:PF X e ga)(he:∀whole,isTrue e X.env whole=(do let v <- whole;standAt e.pos;holding [v] (truthy v)):=by intro _;rfl):PB X e (λρ=>ga ρ>>=lG):=by
 intro pins s σ H Q I hq;refine Bt h he pins s σ H Q I ?_;obtain⟨G,ρ,st,hq⟩:=hq;refine tG.intro st hq λx v G1 H1 u1 st1 r1 h1=>?_;have fin:∀k,lG x=.ok k->Q k H1:=λk ek=>by rw[ek]at h1;exact h1 k G1 H1 (.refl st1.sub) rfl
 cases r1 with
 |non=>exact⟨_,rfl,fin _ rfl⟩
 |bl k=>exact⟨_,rfl,fin _ rfl⟩
 |int i=>exact⟨_,rfl,fin _ rfl⟩
 |str y hy=>
  refine⟨_,⟨hy,rfl⟩,fin _ ?_⟩;show R.ok _=R.ok _;have:y.cps.toList.length=y.length:=Str.len_list y;cases h:y.cps.toList with
  |nil=>rw[h]at this;rw[<- this];rfl
  |cons c cs=>rw[h]at this;rw[<- this];simp;omega
 |tup h r=>exact⟨_,.inr (.inl ⟨_,h.mono st1.sub,rfl⟩),fin _ (by show R.ok _=R.ok _;rw[r.isEmpty])⟩
 |lst h r=>exact⟨_,.inl ⟨_,.of (st1.sub _ _ h),rfl⟩,fin _ (by show R.ok _=R.ok _;rw[r.isEmpty])⟩
 |fls h r=>exact⟨_,.inl ⟨_,h.mono st1.sub,rfl⟩,fin _ (by show R.ok _=R.ok _;rw[r.isEmpty])⟩
 |_=>exact h1.elim
def mV{op:CmpOp}{r:R2}{f:D->D->Option D}(ho:OpR X (compareOp op) r)(hf:ROk X.K r f)(ha:PF X a ga)(hb:PF X b gb)(hm:behindInMarks op b=false):PB X (.Compare a [op] [b] pos) (λρ=>g2 f ga gb ρ>>=asB):=by
 intro pins s σ H Q I h;refine qb ho ha hb hm pins s σ H Q I ?_;obtain⟨G,ρ,st,h⟩:=h;refine B7 hf ?_;refine tG.intro st h λx v G1 H1 u1 st1 r1 h1=>?_;cases r1 with
 |bl k=>exact⟨k,rfl,h1 k G1 H1 (.refl st1.sub) rfl⟩
 |_=>exact h1.elim
def Mn(ha:PF X a ga)(hb:PF X b gb):PB X (.Compare a [.Lt] [b] pos) (λρ=>g2 ltD ga gb ρ>>=asB):=mV Ix (K9 _) ha hb (jh _)
def L3(ha:PF X a ga)(hb:PF X b gb):PB X (.Compare a [.LtE] [b] pos) (λρ=>g2 leD ga gb ρ>>=asB):=mV oK (wO _) ha hb (jh _)
def K7(ha:PF X a ga)(hb:PF X b gb):PB X (.Compare a [.Gt] [b] pos) (λρ=>g2 gtD ga gb ρ>>=asB):=mV L7 (Lc _) ha hb (jh _)
def MR(ha:PF X a ga)(hb:PF X b gb):PB X (.Compare a [.GtE] [b] pos) (λρ=>g2 geD ga gb ρ>>=asB):=mV Fo (FC _) ha hb (jh _)
def zE(K:PySem.W.Frag)(neg:Bool):ROk K (KP K neg) (λx y=>(eqD 40 x y).map λk=>.bl (if neg then !k else k)):=by
 intro G H x y dx dy d Q s rx ry e q;dsimp only at e;cases e1:eqD 40 dx dy with
 |none=>rw[e1]at e;cases e
 |some k=>rw[e1]at e;cases e;exact⟨G,dx,dy,k,s,rx,ry,e1,q _ G H (.refl s) (.bl _)⟩
def LX(hu:X.A.units+64<cLine)(ha:PF X a ga)(hb:PF X b gb):PB X (.Compare a [.Eq] [b] pos) (λρ=>g2 eqF ga gb ρ>>=asB):=mV (Er hu) (zE _ false) ha hb (jh _)
def Ln(hu:X.A.units+64<cLine)(ha:PF X a ga)(hb:PF X b gb):PB X (.Compare a [.NotEq] [b] pos) (λρ=>g2 neF ga gb ρ>>=asB):=mV (DS hu) (zE _ true) ha hb (jh _)
def Mj(ha:PF X a ga)(hb:PF X b gb):PB X (.Compare a [.Is] [b] pos) (λρ=>g2 isF ga gb ρ>>=asB):=mV Ku (La _ false) ha hb (jh _)
def BA{op op':CmpOp}{r r':R2}{f f':D->D->Option D}(ho:OpR X (compareOp op) r)(ho':OpR X (compareOp op') r')(hf:ROk X.K r f)(hf':ROk X.K r' f')(ha:PF X a ga)(hb:PF X b gb)(hc:PF X c gc)(hm:lastMarks [op,op'] [b,c]=false:=by with_unfolding_all rfl):PB X (.Compare a [op,op'] [b,c] pos) (λρ=>g3 f f' ga gb gc ρ>>=asB):=by
 intro pins s σ H Q I h;refine C7 ho ho' ha hb hc hm pins s σ H Q I ?_;obtain⟨G,ρ,st,h⟩:=h;have h':(ga ρ>>=λx=>gb ρ>>=λy=>ofO (f x y)>>=λz=>(match z with|.bl true=>gc ρ>>=λw=>ofO (f' y w)|.bl false=>.ok (.bl false)|_=>.no)>>=asB).post (Fin G H (λ_ b c=>b=c) Q) (Exx X σ G H):=by
  have e:(g3 f f' ga gb gc ρ>>=asB)=(ga ρ>>=λx=>gb ρ>>=λy=>ofO (f x y)>>=λz=>(match z with|.bl true=>gc ρ>>=λw=>ofO (f' y w)|.bl false=>.ok (.bl false)|_=>.no)>>=asB):=by
   unfold g3;cases ga ρ with
   |ok x=>cases gb ρ with
    |ok y=>simp only[R.ok_bind];cases ofO (f x y) <;> rfl
    |_=>rfl
   |_=>rfl
  rw[<- e];exact h
 refine tG.intro st h' λx v G1 H1 u1 st1 r1 h1=>?_;refine tG.intro st1 h1 λy w G2 H2 u2 st2 r2 h2=>?_;cases e:f x y with
 |none=>rw[e]at h2;exact h2.elim
 |some d=>
  rw[e]at h2;refine hf G2 H2 v w x y d _ st2.sub (r1.mono u2.gg) r2 e λz G3 H3 u3 r3=>?_;have h3:=pE u3 h2;have st3:=st2.up u3;cases r3 with
  |bl k=>
   refine⟨k,rfl,?_⟩;cases k with
   |false=>rw[if_neg Bool.false_ne_true];exact⟨false,rfl,h3 _ G3 H3 (.refl st3.sub) rfl⟩
   |true=>
    have h3':(gc ρ>>=λw=>ofO (f' y w)>>=asB).post (Fin G3 H3 (λ_ b c=>b=c) Q) (Exx X σ G3 H3):=by
     have e:((gc ρ>>=λw=>ofO (f' y w))>>=asB)=(gc ρ>>=λw=>ofO (f' y w)>>=asB):=by cases gc ρ <;> rfl
     rw[<- e];exact h3
    refine tG.intro st3 h3' λq vq G4 H4 u4 st4 r4 h4=>?_;cases e':f' y q with
    |none=>rw[e']at h4;exact h4.elim
    |some d'=>
     rw[e']at h4;refine hf' G4 H4 w vq y q d' _ st4.sub ((r2.mono u3.gg).mono u4.gg) r4 e' λz' G5 H5 u5 r5=>?_;have h5:=pE u5 h4;cases r5 with
     |bl k'=>exact⟨k',rfl,h5 k' G5 H5 (.refl u5.sub) rfl⟩
     |_=>exact h5.elim
  |_=>exact h3.elim
def EM(ha:PF X a ga)(hb:PF X b gb)(hc:PF X c gc)(hm:lastMarks [.LtE,.LtE] [b,c]=false:=by with_unfolding_all rfl):PB X (.Compare a [.LtE,.LtE] [b,c] pos) (λρ=>g3 leD leD ga gb gc ρ>>=asB):=BA oK oK (wO _) (wO _) ha hb hc hm
noncomputable def EZ(t u:Ev->R Bool):Ev->R Bool:=λρ=>t ρ>>=λk=>if k=true then u ρ else .ok false
noncomputable def vp(t u:Ev->R Bool):Ev->R Bool:=λρ=>t ρ>>=λk=>if k=true then .ok true else u ρ
def Cv(ha:PB X a gt):PBW X (.BoolOp .And [a] pos) gt:=Gs ha
def fX(ha:PB X a gt):PBW X (.BoolOp .Or [a] pos) gt:=DE ha
def GR(ha:PB X a gt)(hb:PBW X (.BoolOp .And (b::cT) pos) gu):PBW X (.BoolOp .And (a::b::cT) pos) (EZ gt gu):=by
 intro whole pins s σ H Q I h;refine IH ha hb whole pins s σ H Q I ?_;obtain⟨G,ρ,st,h⟩:=h;refine tG.intro st h λx v G1 H1 u1 st1 r1 h1=>?_;subst r1;cases v with
 |true=>rw[if_pos rfl]at h1⊢;exact tG.last st1 h1
 |false=>rw[if_neg Bool.false_ne_true]at h1⊢;exact h1 _ G1 H1 (.refl st1.sub) rfl
def jC(ha:PB X a gt)(hb:PBW X (.BoolOp .Or (b::cT) pos) gu):PBW X (.BoolOp .Or (a::b::cT) pos) (vp gt gu):=by
 intro whole pins s σ H Q I h;refine Kg ha hb whole pins s σ H Q I ?_;obtain⟨G,ρ,st,h⟩:=h;refine tG.intro st h λx v G1 H1 u1 st1 r1 h1=>?_;subst r1;cases v with
 |true=>rw[if_pos rfl]at h1⊢;exact h1 _ G1 H1 (.refl st1.sub) rfl
 |false=>rw[if_neg Bool.false_ne_true]at h1⊢;exact tG.last st1 h1
def HQ(ha:PB X a gt):PB X (.UnaryOp .Not a pos) (λρ=>gt ρ>>=λk=>.ok (!k)):=by intro pins s σ H Q I h;refine Hl ha pins s σ H Q I ?_;obtain⟨G,ρ,st,h⟩:=h;refine tG.intro st h λx v G1 H1 u1 st1 r1 h1=>?_;subst r1;exact h1 _ G1 H1 (.refl st1.sub) rfl
noncomputable def gIf(gt:Ev->R Bool)(ga gb:Ev->R D):Ev->R D:=λρ=>gt ρ>>=λk=>if k=true then ga ρ else gb ρ
def Dg(hc:PB X c gt)(ha:PF X a ga)(hb:PF X b gb):PF X (.IfExp c a b pos) (gIf gt ga gb):=by
 intro pins s σ H Q I h;refine CC hc ha hb pins s σ H Q I ?_;obtain⟨G,ρ,st,h⟩:=h;refine tG.intro st h λx v G1 H1 u1 st1 r1 h1=>?_;subst r1;cases v with
 |true=>rw[if_pos rfl]at h1⊢;exact tG.last st1 h1
 |false=>rw[if_neg Bool.false_ne_true]at h1⊢;exact tG.last st1 h1
def ad:PFA X [] (λ_=>.ok []):=by intro pos pins s σ H Q I h;obtain⟨G,ρ,st,h⟩:=h;exact jj pos pins s σ H Q I (h [] G H (.refl st.sub) .nil)
def Cc(ha:PF X e ga)(hr:PFA X es gl)(hs:starEach (e::es) X.env=(false,eval e X.env)::starEach es X.env:=by rfl):PFA X (e::es) (λρ=>ga ρ>>=λx=>gl ρ>>=λxs=>.ok (x::xs)):=by intro pos pins s σ H Q I h;refine cW ha hr hs pos pins s σ H Q I ?_;obtain⟨G,ρ,st,h⟩:=h;refine tG.intro st h λx v G1 H1 u1 st1 r1 h1=>?_;refine tG.intro st1 h1 λy w G2 H2 u2 st2 r2 h2=>?_;exact h2 _ G2 H2 (.refl st2.sub) (.cons (r1.mono u2.gg) r2)
noncomputable def mkT(ds:List D):R D:=if ds.length<=sizeLine then .ok (.tup ds)else .no
def Ks(h:PFA X es gl):PF X (.Tuple es k pos) (λρ=>gl ρ>>=mkT):=by
 intro pins s σ H Q I hq;refine JZ h pins s σ H Q I ?_;obtain⟨G,ρ,st,hq⟩:=hq;refine tG.intro st hq λds vs G1 H1 u1 st1 r1 h1=>?_;unfold mkT at h1;split at h1;·rename_i hz;exact⟨by rw[r1.length];exact hz,λp hp=>h1 _ _ _ (.new st1.sub hp) (.tup (.of aF) (r1.mono (.into (st1.sub.free hp))))⟩
 ·exact h1.elim
def D7{c:Nat}:[c].length<=sizeLine:=by show 1<=sizeLine;decide
noncomputable def ixD:D->D->Option D
 |.lst _ xs,.int i=>atI xs i
 |.tup xs,.int i=>atI xs i
 |.str x,.int i=>(atI x i).map λc=>.str [c]
 |_,_=>none
def Reps.atI{K:PySem.W.Frag}{G:Hp}{vs:List V}{ds:List D}{i:Int}{d:D}(r:Reps K G vs ds)(h:atI ds i=some d):∃v,atI vs i=some v/\Rep K G v d:=by
 unfold L2.atI at h⊢;rw[r.length];cases e:ixN ds.length i with
 |none=>rw[e]at h;cases h
 |some j=>rw[e]at h;exact r.get h
def Lq(K:PySem.W.Frag):ROk K (rIx K) ixD:=by
 intro G H x y dx dy d Q s rx ry e q;unfold ixD at e;split at e;·obtain⟨a,vs,rfl,h,r⟩:=rx.seq_inv;obtain⟨v,e1,r1⟩:=r.atI e;exact .inl ⟨a,vs,_,v,rfl,ry.int_inv,h.mono s,e1,q v G H (.refl s) r1⟩
 ·obtain⟨a,vs,rfl,h,r⟩:=rx.tup_inv;obtain⟨v,e1,r1⟩:=r.atI e;exact .inr (.inl ⟨a,vs,_,v,rfl,ry.int_inv,h.mono s,e1,q v G H (.refl s) r1⟩)
 ·rename_i z i;obtain⟨y',rfl,ey,hy⟩:=rx.str_inv;subst ey;cases e1:L2.atI y'.cps.toList i with
  |none=>rw[e1]at e;cases e
  |some c=>rw[e1]at e;cases e;exact .inr (.inr ⟨y',i,c,rfl,ry.int_inv,hy,e1,q _ G H (.refl s) (.strL (by simp) D7)⟩)
 ·cases e
def aB(ha:PF X a ga)(hb:PF X b gb)(hs:qF b:=by exact λ_ _=>rfl):PF X (.Subscript a b pos) (g2 ixD ga gb):=
 λpins s σ H Q I h=>FX Kv ha hb hs pins s σ H Q I (B7 (Lq _) h)
end
noncomputable def km{α:Type}(xs:List α)(lo hi:Option Int):List α:=(xs.drop (HT.sIx xs.length 0 lo)).take (HT.sIx xs.length xs.length hi - HT.sIx xs.length 0 lo)
def FW{α:Type}(xs:List α)(lo hi:Option Int):(km xs lo hi).length<=xs.length:=by unfold km;rw[List.length_take,List.length_drop];omega
def Reps.cut{K:PySem.W.Frag}(r:Reps K G vs ds)(lo hi:Option Int):Reps K G (Hf vs lo hi) (km ds lo hi):=by unfold Hf km;rw[r.length];exact(r.drop _).take _
section
variable{a b c e:Expr}{cT:List Expr}{lo hi:Option Expr}{ga gc:Ev->R D}{go gp:Ev->R (Option Int)}{p2:Pos}
noncomputable def J7(K:PySem.W.Frag):V->Option Int->Option Int->Hp->VK->Prop:=λx lo hi H Q=>∃a xs,x=.ref a/\SqT K H a xs/\
 (HT.sIx xs.length 0 lo=0/\HT.sIx xs.length xs.length hi=xs.length)/\Q (.ref a) H
def sl_tup_whole:SlR X (J7 X.K):=by
 intro pins s σ H x v vl vu lo hi sl Q I rx hs pl pu h;obtain⟨a,xs,rfl,hx,⟨hw1,hw2⟩,q⟩:=h;cases rx;obtain⟨its,r,ht,hz⟩:=I.tuple hx;have hlen:its.toArray.size=xs.length:=by rw[List.size_toArray];exact r.length.symm
 refine⟨"tuple",_,PyProof.Rows.slot_tuple_getitem.lookup,ht.typeIs,?_⟩;obtain⟨os,hos,hcs,hds⟩:=id hs;have hTs:s.TypeIs (.ref sl) "slice":=⟨os,hos,hcs⟩
 unfold getItem
 try with_reducible refine wpAny_holding ?_
 refine wpAny_bind (wpAny_sequenceKey ht.typeIs (by decide) ?_);refine wpAny_bind (wpAny_callSpecial?_slot ht.typeIs PyProof.Rows.slot_tuple_getitem
  (wpAny_call_entry PyProof.Rows.slot_tuple_getitem ht.typeIs entry_tuple_getitem ?_ (args_tuple_getitem _ _)));show wpAny _ _ (Builtin.Tuple.tupleItemsOf (.ref a)>>=_) _ _ s;refine wpAny_bind (tupleItemsOf_ ht ?_);refine wpAny_bind (wpAny_typeOf hTs ?_);refine wpAny_bind (HT.sliceApplied_gen hs pl pu ?_);rw[hlen,hw1,hw2];dsimp only;rw[if_pos (by simp)];have fin:EP X pins σ Q (.ref a) s:=⟨.ref a,H,I,rfl,q⟩
 refine wpAny_bind (wpAny_bind (wpAny_typeOf ht.typeIs (wpAny_pure ?_)));exact wpAny_bind (wpAny_rule (wpAny_pure ⟨_,rfl,wpAny_pure fin⟩))
theorem Kc{α:Type}(xs:List α)(a:Nat):∀k:Nat,((List.range k).map (a + ·)).filterMap (λi:Nat=>xs[i]?)=(xs.drop a).take k
 | 0=>by simp
 |k+1=>by
  rw[List.range_succ,List.map_append,List.filterMap_append,Kc xs a k,List.take_add_one,List.getElem?_drop]
  congr 1
def vZ(n d:Nat)(v:Option Int):(match v with|none=>(d:Int)|some i=>max 0 (min (if i<0 then i+(n:Int)else i) (n:Int)))=((HT.sIx n d v:Nat):Int):=by
 cases v with
 |none=>rfl
 |some i=>show max 0 (min (if i<0 then i+(n:Int)else i) (n:Int))=(((if i<0 then (i+(n:Int)).toNat else min i.toNat n):Nat):Int);split <;> omega
def E0(lo hi:Option Int)(n:Nat):Builtin.Str.strSliceIndices lo hi 1 n=(List.range (HT.sIx n n hi - HT.sIx n 0 lo)).map (HT.sIx n 0 lo + ·):=by
 have e:Builtin.Str.strSliceIndices lo hi 1 n=sliceRange ((HT.sIx n 0 lo:Nat):Int) ((HT.sIx n n hi:Nat):Int) 1:=by rw[<- vZ n 0 lo,<- vZ n n hi];rfl
 rw[e];generalize HT.sIx n 0 lo=a;generalize HT.sIx n n hi=b;unfold sliceRange;have hc:(if (1:Int) > 0 then (if (a:Int)<(b:Int)then ((b:Int) - (a:Int)+1 - 1) / 1 else 0)else (if (a:Int) > (b:Int)then ((a:Int) - (b:Int) - 1 - 1) / (-1)else 0)).toNat=b - a:=by
  split;·rw[Int.ediv_one];omega
  ·omega
 simp only[hc];apply List.map_congr_left;omega
def AI(x:Str)(lo hi:Option Int):(Txt.slice x lo hi).cps.toList=km x.cps.toList lo hi:=by
 have hn:=Str.len_list x;unfold Txt.slice km;rw[hn,E0];have hb:HT.sIx x.length x.length hi<=x.length:=HT.sIx_le _ _ (Nat.le_refl _) hi;by_cases hc:((1:Int)==1 && ((List.range (HT.sIx x.length x.length hi - HT.sIx x.length 0 lo)).map (HT.sIx x.length 0 lo + ·)).length==x.length)=true
 ·rw[if_pos hc];have h2:HT.sIx x.length x.length hi - HT.sIx x.length 0 lo=x.length:=by simpa using hc
  have h3:HT.sIx x.length 0 lo=0\/x.length=0:=by omega
  rw[h2];rcases h3 with h3|h3;·rw[h3,List.drop_zero,<- hn,List.take_length]
  ·have:x.cps.toList=[]:=List.eq_nil_of_length_eq_zero (by rw[hn];exact h3);rw[this];simp
 ·rw[if_neg hc];have e:(λi:Nat=>x.cps[i]?)=(λi:Nat=>x.cps.toList[i]?):=by funext i;simp
  rw[List.toList_toArray,e,Kc]
noncomputable def Nd:V->Option Int->Option Int->Hp->VK->Prop:=λx lo hi H Q=>∃y:Str,x=.str y/\y.length<=sizeLine/\Q (.str (Txt.slice y lo hi)) H
theorem sl_str:SlR X Nd:=by
 intro pins s σ H x v vl vu lo hi sl Q I rx hs pl pu h;obtain⟨y,rfl,hz,q⟩:=h;obtain⟨t,rfl⟩:=rx;refine⟨"str",_,F.slot_str_getitem.lookup,typeIs_str _ _ _,?_⟩;cases pl with
 |none=>
  cases pu with
  |none=>exact wpAny_getItem_str_slice (l:=none) (u:=none) (st:=none) hs rfl (post_val_or_str ⟨Nat.le_trans (Txt.slice_le y _ _) hz,λt' k=>⟨.str _,H,I.tok k,⟨t',rfl⟩,q⟩⟩)
  |int j uj=>exact wpAny_getItem_str_slice (l:=none) (u:=some (j,uj)) (st:=none) hs rfl (post_val_or_str ⟨Nat.le_trans (Txt.slice_le y _ _) hz,λt' k=>⟨.str _,H,I.tok k,⟨t',rfl⟩,q⟩⟩)
 |int i ui=>
  cases pu with
  |none=>exact wpAny_getItem_str_slice (l:=some (i,ui)) (u:=none) (st:=none) hs rfl (post_val_or_str ⟨Nat.le_trans (Txt.slice_le y _ _) hz,λt' k=>⟨.str _,H,I.tok k,⟨t',rfl⟩,q⟩⟩)
  |int j uj=>exact wpAny_getItem_str_slice (l:=some (i,ui)) (u:=some (j,uj)) (st:=none) hs rfl (post_val_or_str ⟨Nat.le_trans (Txt.slice_le y _ _) hz,λt' k=>⟨.str _,H,I.tok k,⟨t',rfl⟩,q⟩⟩)
noncomputable def CJ(lo hi:Option Int):D->Option D
 |.str x=>some (.str (km x lo hi))
 |.tup xs=>some (.tup (km xs lo hi))
 |.lst _ xs=>some (.lst false (km xs lo hi))
 |_=>none
noncomputable def rSl(K:PySem.W.Frag):V->Option Int->Option Int->Hp->VK->Prop:=λx lo hi H Q=>Nd x lo hi H Q\/J7 K x lo hi H Q\/Nk K x lo hi H Q\/M2 K x lo hi H Q
def Ka:SlR X (rSl X.K):=sl_str.or (sl_tup_whole.or (sl_tup.or E1))
noncomputable def PFO(X:Cx)(o:Option Expr)(g:Ev->R (Option Int)):Prop:=PO X o (tG X (λ_ b c=>b=c) g)
def da:PFO X none (λ_=>.ok none):=by intro pins s σ H Q I h;obtain⟨G,ρ,st,h⟩:=h;exact G8 pins s σ H Q I (h none G H (.refl st.sub) rfl)
noncomputable def asI:D->R Int
 |.int i=>.ok i
 |_=>.no
def BI(h:PF X e ga):PFO X (some e) (λρ=>ga ρ>>=λx=>asI x>>=λi=>.ok (some i)):=by
 intro pins s σ H Q I hq;refine EH h pins s σ H Q I ?_;obtain⟨G,ρ,st,hq⟩:=hq;refine tG.intro st hq λx v G1 H1 u1 st1 r1 h1=>?_;cases r1 with
 |int i=>exact⟨i,rfl,h1 (some i) G1 H1 (.refl st1.sub) rfl⟩
 |_=>exact h1.elim
noncomputable def gSl(ga:Ev->R D)(go gp:Ev->R (Option Int)):Ev->R D:=λρ=>ga ρ>>=λx=>go ρ>>=λl=>gp ρ>>=λu=>ofO (CJ l u x)
def cG(ha:PF X a ga)(hl:PFO X lo go)(hu:PFO X hi gp):PF X (.Subscript a (.Slice lo hi none p2) pos) (gSl ga go gp):=by
 intro pins s σ H Q I h;refine Bw Ka ha hl hu pins s σ H Q I ?_;obtain⟨G,ρ,st,h⟩:=h;refine tG.intro st h λx v G1 H1 u1 st1 r1 h1=>?_;refine tG.intro st1 h1 λl l' G2 H2 u2 st2 r2 h2=>?_;subst r2;refine tG.intro st2 h2 λu u' G3 H3 u3 st3 r3 h3=>?_;subst r3;obtain⟨d,e,q⟩:=ofO.ok h3;have r:=(r1.mono u2.gg).mono u3.gg;unfold CJ at e;split at e;·cases e;obtain⟨y,rfl,ey,hy⟩:=r.str_inv;subst ey;exact .inl ⟨y,rfl,hy,q _ G3 H3 (.refl st3.sub) (.strL (AI y _ _) (Nat.le_trans (FW _ _ _) (by rw[Str.len_list];exact hy)))⟩
 ·rename_i xs0;cases e;obtain⟨a,vs,rfl,h,t⟩:=r.tup_inv;by_cases hw:HT.sIx vs.length 0 l'=0/\HT.sIx vs.length vs.length u'=vs.length
  ·refine .inr (.inl ⟨a,vs,rfl,h.mono st3.sub,hw,q _ G3 H3 (.refl st3.sub) ?_⟩);have e1:km xs0 l' u'=xs0:=by unfold km;rw[<- t.length,hw.1,hw.2,List.drop_zero,Nat.sub_zero,t.length,List.take_length]
   rw[e1];exact .tup h t
  ·exact .inr (.inr (.inl ⟨a,vs,rfl,h.mono st3.sub,hw,λp hp=>q _ _ _ (.new st3.sub hp) (.tup (.of aF) ((t.cut _ _).mono (.into (st3.sub.free hp))))⟩))
 ·cases e;obtain⟨a,vs,rfl,h,t⟩:=r.seq_inv;exact .inr (.inr (.inr ⟨a,vs,rfl,h.mono st3.sub,λp hp=>q _ _ _ (.new st3.sub hp) (.lst aF ((t.cut _ _).mono (.into (st3.sub.free hp))))⟩))
 ·cases e
noncomputable def KI(K:PySem.W.Frag)(r:List V->Hp->VK->Prop)(f:List D->Option D):Prop:=∀(G H:Hp)(xs:List V)(ds:List D)(d:D)(Q:VK),Same G H->Reps K G xs ds->f ds=some d->Fin G H (Rep K) Q d->r xs H Q
def qK{id:String}{p:Pos}{r:List V->Hp->VK->Prop}{f:List D->Option D}(hc:lS X (.builtin id) r)(hf:KI X.K r f)(hg:Gl X x)(hm:X.mg x=none)(hv:bootBuiltins x=some (.builtin id))(ha:PFA X (e::es) gl)(hn:x≠"__name__":=by decide)(hdb:(x==("__debug__":Str))=false:=by decide)(he:starEach (e::es) X.env=(false,eval e X.env)::starEach es X.env:=by rfl)(hpl:(backTo pos (starEach es X.env)).any (·.1)=false:=by rfl):PF X (.Call (.Name x p) (e::es) [] pos) (λρ=>gl ρ>>=λds=>ofO (f ds)):=by
 intro pins s σ H Q I h;refine wF hc hg hm hv ha hn hdb he hpl pins s σ H Q I ?_;obtain⟨G,ρ,st,h⟩:=h;refine tG.intro st h λds vs G1 H1 u1 st1 r1 h1=>?_;obtain⟨d,e,q⟩:=ofO.ok h1;exact hf G1 H1 vs ds d Q st1.sub r1 e q
def Ac{T:String}{p:Pos}{r:List V->Hp->VK->Prop}{f:List D->Option D}(hc:lS X (.type T) r)(hf:KI X.K r f)(hg:Gl X x)(hm:X.mg x=none)(hv:bootBuiltins x=some (.type T))(ha:PFA X (e::es) gl)(hn:x≠"__name__":=by decide)(hdb:(x==("__debug__":Str))=false:=by decide)(he:starEach (e::es) X.env=(false,eval e X.env)::starEach es X.env:=by rfl)(hpl:(backTo pos (starEach es X.env)).any (·.1)=false:=by rfl):PF X (.Call (.Name x p) (e::es) [] pos) (λρ=>gl ρ>>=λds=>ofO (f ds)):=by
 intro pins s σ H Q I h;refine nq hc hg hm hv ha hn hdb he hpl pins s σ H Q I ?_;obtain⟨G,ρ,st,h⟩:=h;refine tG.intro st h λds vs G1 H1 u1 st1 r1 h1=>?_;obtain⟨d,e,q⟩:=ofO.ok h1;exact hf G1 H1 vs ds d Q st1.sub r1 e q
def Reps.one{K:PySem.W.Frag}(r:Reps K G vs [d]):∃v,vs=[v]/\Rep K G v d:=by
 cases r with
 |cons r t=>cases t;exact⟨_,rfl,r⟩
def Reps.two{K:PySem.W.Frag}{d':D}(r:Reps K G vs [d,d']):∃v w,vs=[v,w]/\Rep K G v d/\Rep K G w d':=by
 cases r with
 |cons r t=>obtain⟨w,rfl,r'⟩:=t.one;exact⟨_,w,rfl,r,r'⟩
noncomputable def fD:List D->Option D
 | [.str x]=>some (.int x.length)
 | [.tup xs]=>some (.int xs.length)
 | [.lst _ xs]=>some (.int xs.length)
 |_=>none
def HU{p:Pos}(hg:Gl X "len")(hm:X.mg "len"=none)(ha:PFA X [e] gl)(he:starEach [e] X.env=[(false,eval e X.env)]:=by rfl):PF X (.Call (.Name "len" p) [e] [] pos) (λρ=>gl ρ>>=λds=>ofO (fD ds)):=
 qK De (by
  intro G H xs ds d Q s r e q;unfold fD at e;split at e;·cases e;obtain⟨v,rfl,r1⟩:=r.one;obtain⟨y,rfl,ey,hy⟩:=r1.str_inv;subst ey;exact⟨_,y.length,rfl,⟨hy,rfl⟩,by rw[<- Str.len_list];exact q _ G H (.refl s) (.int _)⟩
  ·cases e;obtain⟨v,rfl,r1⟩:=r.one;obtain⟨a,vs,rfl,h,t⟩:=r1.tup_inv;exact⟨_,vs.length,rfl,.inr ⟨vs,h.mono s,rfl⟩,by rw[t.length];exact q _ G H (.refl s) (.int _)⟩
  ·cases e;obtain⟨v,rfl,r1⟩:=r.one;obtain⟨a,vs,rfl,h,t⟩:=r1.seq_inv;exact⟨_,vs.length,rfl,.inl ⟨vs,h.mono s,rfl⟩,by rw[t.length];exact q _ G H (.refl s) (.int _)⟩
  ·cases e) hg hm PySem.boot_len ha (he:=by rw[he];rfl)
noncomputable def jR:List D->Option D
 | [.lst _ xs]=>some (.tup xs)
 | [.tup xs]=>some (.tup xs)
 |_=>none
def CA(K:PySem.W.Frag):KI K (λxs H Q=>∃p ys,xs=[.ref p]/\((SqL K H p ys/\∀l,H l=none->Q (.ref l) (upd H l (.tup ys)))\/(SqT K H p ys/\Q (.ref p) H))) jR:=by
 intro G H xs ds d Q s r e q;unfold jR at e;split at e;·cases e;obtain⟨v,rfl,r1⟩:=r.one;obtain⟨a,vs,rfl,h,t⟩:=r1.seq_inv;exact⟨a,vs,rfl,.inl ⟨h.mono s,λl hl=>q _ _ _ (.new s hl) (.tup (.of aF) (t.mono (.into (s.free hl))))⟩⟩
 ·cases e;obtain⟨v,rfl,r1⟩:=r.one;obtain⟨a,vs,rfl,h,t⟩:=r1.tup_inv;exact⟨a,vs,rfl,.inr ⟨h.mono s,q _ G H (.refl s) (.tup h t)⟩⟩
 ·cases e
end
noncomputable def ItOk(K:PySem.W.Frag)(G₁:Hp)(J:It)(items:List D):Prop:=∀(i:Nat)(G H:Hp),Same G₁ G->Same G H->
 (∀d,items[i]?=some d->J.go i H/\∀x H',J.yld i H x H'->∃G',Up G H G' H'/\Rep K G' x d)/\(items.length<=i->J.stop i H)
noncomputable def PIF(X:Cx)(tg iter:Expr)(g:Ev->R (List D)):Prop:=PI X tg iter (tG X (λG J items=>ItOk X.K G J items) g)
noncomputable def Its(x:Str):It:=⟨λi _=>i<x.cps.size,λi H v H'=>H'=H/\∃c,x.cps[i]?=some c/\v=.str ⟨#[c]⟩,λi _=>x.cps.size<=i⟩
section
variable{tg a e:Expr}{ga:Ev->R D}
def zU{l:Addr}{Rr:It->Hp->Prop}(I:Inv X pins σ H s)(h:SqL X.K H l xs)(q:Rr (Itl X.K l) H):
  wpAny (model X.prog X.w) X.A (pyIter (.ref l)) (PIE X pins σ tg Rr) X.xe s:=by
 obtain⟨its,rv,p,hz⟩:=I.list h;refine wpAny_pyIter_list p.isList ?_;refine⟨s.heap.objs.size,[s.heap.objs.size],_,_,H,rfl,I.kept λb o e=>Heap.get?_push_of_some _ e,zP l _,⟨_,Heap.get?_push_size _ rfl,rfl,rfl⟩,λb hb=>?_,q⟩;have e:b=s.heap.objs.size:=by simpa using hb
 subst e;exact I.fpOk (Nat.le_refl _) (I.hok.fresh (Nat.le_refl _))
def Hw{l:Addr}{Rr:It->Hp->Prop}(I:Inv X pins σ H s)(h:SqT X.K H l xs)(q:Rr (Itt X.K l) H):
  wpAny (model X.prog X.w) X.A (pyIter (.ref l)) (PIE X pins σ tg Rr) X.xe s:=by
 obtain⟨its,rv,p,hz⟩:=I.tuple h;refine wpAny_pyIter_tuple (show s.heap.IsTuple l its.toArray from p) ?_;refine⟨s.heap.objs.size,[s.heap.objs.size],_,_,H,rfl,I.kept λb o e=>Heap.get?_push_of_some _ e,xv l _,⟨_,Heap.get?_push_size _ rfl,rfl,rfl⟩,λb hb=>?_,q⟩;have e:b=s.heap.objs.size:=by simpa using hb
 subst e;exact I.fpOk (Nat.le_refl _) (I.hok.fresh (Nat.le_refl _))
def xM{w:World}{K:PySem.W.Frag}{tg:Expr}(it:Addr)(x:Str)(t:Tok):Turn P w K tg (Its x) [it] it (λi h=>h.IsStrIter it "str_ascii_iterator" x t i) where
 mem:=by simp
 obj:=λi h st b hb=>by
  have e:b=it:=by simpa using hb
  subst e;obtain⟨o,e,c,d⟩:=st;exact⟨o,e,λv z=>by rw[d]at z;cases z⟩
 keep:=λi h h' st k=>let⟨o,ho,r⟩:=st;⟨o,k it (by simp) o ho,r⟩
 item:=by intro X hP hw hK hc i pins s σ H E I hf st hg;have hg':i<x.cps.size:=hg;obtain⟨f0,f1,f2,f3,f4,f5⟩:=hf it (by simp);refine wpAny_pyNext_ascii_item st (c:=x.cps[i]) (by simp[hg']) λh' st' sb=>?_;have I1:Inv X pins σ H { s with heap:=h',toks:=s.toks+1 }:=I.turned (λb o hb e=>(sb.2 b hb).trans e) f0 f1 f3 f4 f5;obtain⟨o,e,c,d⟩:=id st';exact⟨_,rfl,yq e c d (by decide) ⟨.str ⟨#[x.cps[i]]⟩,H,I1,⟨_,rfl⟩,⟨rfl,_,by simp[hg'],rfl⟩,st',λb hb=>(hf b hb).1⟩⟩
 done:=by intro X hP hw hK hc i pins s σ H E I hf st hg;obtain⟨f0,f1,f2,f3,f4,f5⟩:=hf it (by simp);have hg':x.cps.size<=i:=hg;exact wpAny_pyNext_ascii_end (I.ok.hd hc) st (by simp;omega) λh' eb=>⟨rfl,I.turned (λb o hb e=>eb b o hb e) f0 f1 f3 f4 f5⟩
 self:=λ_ _ _ _ _ st h=>wpAny_pyIter_striter_ascii st h
def za{w:World}{K:PySem.W.Frag}{tg:Expr}(it:Addr)(x:Str)(t:Tok):Turn P w K tg (Its x) [it] it (λi h=>h.IsStrIter it "str_iterator" x t i) where
 mem:=by simp
 obj:=λi h st b hb=>by
  have e:b=it:=by simpa using hb
  subst e;obtain⟨o,e,c,d⟩:=st;exact⟨o,e,λv z=>by rw[d]at z;cases z⟩
 keep:=λi h h' st k=>let⟨o,ho,r⟩:=st;⟨o,k it (by simp) o ho,r⟩
 item:=by intro X hP hw hK hc i pins s σ H E I hf st hg;have hg':i<x.cps.size:=hg;obtain⟨f0,f1,f2,f3,f4,f5⟩:=hf it (by simp);refine wpAny_pyNext_wide_item st (c:=x.cps[i]) (by simp[hg']) λh' st' sb=>?_;have I1:Inv X pins σ H { s with heap:=h',toks:=s.toks+1 }:=I.turned (λb o hb e=>(sb.2 b hb).trans e) f0 f1 f3 f4 f5;obtain⟨o,e,c,d⟩:=id st';exact⟨_,rfl,yq e c d (by decide) ⟨.str ⟨#[x.cps[i]]⟩,H,I1,⟨_,rfl⟩,⟨rfl,_,by simp[hg'],rfl⟩,st',λb hb=>(hf b hb).1⟩⟩
 done:=by intro X hP hw hK hc i pins s σ H E I hf st hg;obtain⟨f0,f1,f2,f3,f4,f5⟩:=hf it (by simp);have hg':x.cps.size<=i:=hg;exact wpAny_pyNext_wide_end (I.ok.hd hc) st (by simp;omega) λh' eb=>⟨rfl,I.turned (λb o hb e=>eb b o hb e) f0 f1 f3 f4 f5⟩
 self:=λ_ _ _ _ _ st h=>wpAny_pyIter_striter_wide st h
def Je{t:Tok}{Rr:It->Hp->Prop}(I:Inv X pins σ H s)(q:Rr (Its x) H):
  wpAny (model X.prog X.w) X.A (pyIter (.str x t)) (PIE X pins σ tg Rr) X.xe s:=by
 have fp:∀(o:Obj),∀b∈[s.heap.objs.size],oS X pins H b:=λo b hb=>by
  have e:b=s.heap.objs.size:=by simpa using hb
  subst e;exact I.fpOk (Nat.le_refl _) (I.hok.fresh (Nat.le_refl _))
 cases ha:x.cps.all (· < 128);·refine wpAny_pyIter_wide ha ⟨s.heap.objs.size,[s.heap.objs.size],_,_,H,rfl,I.kept λb o e=>Heap.get?_push_of_some _ e,za _ x t,⟨_,Heap.get?_push_size _ rfl,rfl,rfl⟩,fp default,q⟩
 ·refine wpAny_pyIter_ascii ha ⟨s.heap.objs.size,[s.heap.objs.size],_,_,H,rfl,I.kept λb o e=>Heap.get?_push_of_some _ e,xM _ x t,⟨_,Heap.get?_push_size _ rfl,rfl,rfl⟩,fp default,q⟩
noncomputable def bI:D->R (List D)
 |.lst _ xs=>.ok xs
 |.tup xs=>.ok xs
 |.str x=>.ok (x.map λc=>.str [c])
 |_=>.no
def ItOk.list{K:PySem.W.Frag}{l:Addr}(h:SqL K G l vs)(r:Reps K G vs ds):ItOk K G (Itl K l) ds:=by intro i G1 H1 s1 s2;refine⟨λd e=>?_,λhl=>⟨vs,(h.mono s1).mono s2,by rw[r.length];exact hl⟩⟩;obtain⟨v,ev,rv⟩:=r.get e;refine⟨⟨vs,v,(h.mono s1).mono s2,ev⟩,λx H' y=>?_⟩;obtain⟨rfl,y⟩:=y;have:=y vs ((h.mono s1).mono s2);rw[ev]at this;cases this;exact⟨G1,.refl s2,rv.mono s1⟩
def ItOk.tup{K:PySem.W.Frag}{l:Addr}(h:SqT K G l vs)(r:Reps K G vs ds):ItOk K G (Itt K l) ds:=by intro i G1 H1 s1 s2;refine⟨λd e=>?_,λhl=>⟨vs,(h.mono s1).mono s2,by rw[r.length];exact hl⟩⟩;obtain⟨v,ev,rv⟩:=r.get e;refine⟨⟨vs,v,(h.mono s1).mono s2,ev⟩,λx H' y=>?_⟩;obtain⟨rfl,y⟩:=y;have:=y vs ((h.mono s1).mono s2);rw[ev]at this;cases this;exact⟨G1,.refl s2,rv.mono s1⟩
def ItOk.str{K:PySem.W.Frag}(x:Str):ItOk K G (Its x) (x.cps.toList.map λc=>.str [c]):=by
 intro i G1 H1 s1 s2;refine⟨λd e=>?_,λhl=>show x.cps.size<=i by simpa using hl⟩;rw[List.getElem?_map]at e;cases ec:x.cps.toList[i]? with
 |none=>rw[ec]at e;cases e
 |some c=>
  rw[ec]at e;cases e;have hi:i<x.cps.size:=by have:=(List.getElem?_eq_some_iff.mp ec).1;simpa using this
  refine⟨hi,λv H' y=>?_⟩;obtain⟨rfl,c',e',rfl⟩:=y;have:c'=c:=by
   have h2:x.cps.toList[i]?=x.cps[i]?:=by simp
   rw[h2,e']at ec;exact Option.some.inj ec
  subst this;exact⟨G1,.refl s2,.strL rfl D7⟩
def ItOk.range{K:PySem.W.Frag}(lo:Int)(n:Nat):ItOk K G (Itr lo n) ((List.range n).map λi=>.int (lo+(i:Nat))):=by
 intro i G1 H1 s1 s2;refine⟨λd e=>?_,λhl=>show n<=i by simpa using hl⟩;rw[List.getElem?_map]at e;by_cases hi:i<n;·rw[List.getElem?_range hi]at e;cases e;refine⟨hi,λv H' y=>?_⟩;obtain⟨rfl,rfl⟩:=y;exact⟨G1,.refl s2,.int _⟩
 ·rw[List.getElem?_eq_none (by simpa using hi)]at e;cases e
def GA(ha:PF X a ga):PIF X tg a (λρ=>ga ρ>>=bI):=by
 intro pins s σ H Rr I h;obtain⟨G,ρ,st,h⟩:=h;have t:tF X ga σ H (λx H1=>∃G1 d,Same G1 H1/\Rep X.K G1 x d/\(bI d).post (Fin G1 H1 (λG J items=>ItOk X.K G J items) Rr) (Exx X σ G1 H1)):=
  tG.intro st h λx v G1 H1 u1 st1 r1 h1=>⟨G1,x,st1.sub,r1,h1⟩
 refine thn (ha pins s σ H _ I t) λv s1 ⟨x,H1,I1,r1,G1,d,sub,rd,h1⟩=>?_;cases rd with
 |lst hh r=>cases r1;exact zU I1 (.of (sub _ _ hh)) (h1 _ G1 H1 (.refl sub) (.list (.of hh) r))
 |fls hh r=>cases r1;exact zU I1 (hh.mono sub) (h1 _ G1 H1 (.refl sub) (.list hh r))
 |tup hh r=>cases r1;exact Hw I1 (hh.mono sub) (h1 _ G1 H1 (.refl sub) (.tup hh r))
 |str y hy=>obtain⟨t,rfl⟩:=r1;exact Je I1 (h1 _ G1 H1 (.refl sub) (.str y))
 |_=>exact h1.elim
noncomputable def cI:List D->R (List D)
 | [.int j]=>if -(2 ^ 62)<=j/\j<2 ^ 62 then .ok ((List.range j.toNat).map λi=>.int (0+(i:Nat)))else .no
 |_=>.no
noncomputable def jw:List D->R (List D)
 | [.int i,.int j]=>if -(2 ^ 62)<=i/\i<2 ^ 62/\-(2 ^ 62)<=j/\j<2 ^ 62 then .ok ((List.range (j - i).toNat).map λk=>.int (i+(k:Nat)))else .no
 |_=>.no
def xn{p:Pos}(hg:Gl X "range")(hm:X.mg "range"=none)(ha:PFA X [a] gl)(hs:starEach [a] X.env=[(false,eval a X.env)]:=by rfl):PIF X tg (.Call (.Name "range" p) [a] [] pos) (λρ=>gl ρ>>=cI):=by
 intro pins s σ H Rr I h;refine yQ hg hm ha hs pins s σ H Rr I ?_;obtain⟨G,ρ,st,h⟩:=h;refine tG.intro st h λds vs G1 H1 u1 st1 r1 h1=>?_;unfold cI at h1;split at h1
 ·split at h1;·rename_i hj;obtain⟨v,rfl,r⟩:=r1.one;obtain rfl:=r.int_inv;exact⟨_,rfl,hj.1,hj.2,h1 _ G1 H1 (.refl st1.sub) (.range 0 _)⟩
  ·exact h1.elim
 ·exact h1.elim
def xy{b:Expr}{p:Pos}(hg:Gl X "range")(hm:X.mg "range"=none)(ha:PFA X [a,b] gl)(hs:starEach [a,b] X.env=[(false,eval a X.env),(false,eval b X.env)]:=by rfl)(hs2:starEach [b] X.env=[(false,eval b X.env)]:=by rfl):
  PIF X tg (.Call (.Name "range" p) [a,b] [] pos) (λρ=>gl ρ>>=jw):=by
 intro pins s σ H Rr I h;refine A2 hg hm ha hs hs2 pins s σ H Rr I ?_;obtain⟨G,ρ,st,h⟩:=h;refine tG.intro st h λds vs G1 H1 u1 st1 r1 h1=>?_;unfold jw at h1;split at h1
 ·split at h1;·rename_i hj;obtain⟨v,w,rfl,r,r'⟩:=r1.two;obtain rfl:=r.int_inv;obtain rfl:=r'.int_inv;exact⟨_,_,rfl,hj,h1 _ G1 H1 (.refl st1.sub) (.range _ _)⟩
  ·exact h1.elim
 ·exact h1.elim
end
noncomputable def ObSt(K:PySem.W.Frag)(H₀ G H:Hp)(σ:St)(ρ:Ev):Prop:=
 ∃ow:kj,(∀(i:Nat) ds l,ρ[i]?=some (some (.own ds))->σ[i]?=some (some (.ref l))->ow l=some (i,0))/\
  ∀(i:Nat) m C p fs,ρ[i]?=some (some (.obj m C p fs))->σ[i]?=some (some (.ref p))/\ObjAt K H₀ G H ow i m C p fs
def ObSt.rd{K:PySem.W.Frag}{H₀:Hp}(h:ObSt K H₀ G H σ ρ):∀(i:Nat) m C p fs,ρ[i]?=some (some (.obj m C p fs))->σ[i]?=some (some (.ref p))/\∃ow,ObjAt K (λ_=>none) G H ow i m C p fs:=λi m C p fs e=>by obtain⟨ow,_,o2⟩:=h;exact⟨(o2 i m C p fs e).1,ow,(o2 i m C p fs e).2.rd⟩
noncomputable def NoOwn(ρ:Ev):Prop:=∀(j:Nat)(x:Sl),ρ[j]?=some (some x)->∃d,x=.val d
def NoOwn.own(h:NoOwn ρ)(j:Nat)(ds:List D):ρ[j]?≠some (some (.own ds)):=λe=>by obtain⟨d,z⟩:=h j _ e;cases z
def NoOwn.obj(h:NoOwn ρ)(j:Nat)(m:Bool)(C p:Addr)(fs:List (Nat×Fd)):ρ[j]?≠some (some (.obj m C p fs)):=λe=>by obtain⟨d,z⟩:=h j _ e;cases z
def NoOwn.ob{K:PySem.W.Frag}{H₀:Hp}(h:NoOwn ρ):ObSt K H₀ G H σ ρ:=
 ⟨λ_=>none,λi ds l e=>absurd e (h.own i ds),λi m C p fs e=>absurd e (h.obj i m C p fs)⟩
structure StR(K:PySem.W.Frag)(G₀ H₀ G H:Hp)(σ:St)(ρ:Ev):Prop where
 e:StE K G H σ ρ
 sub0:Same G₀ H₀
 up:Up G₀ H₀ G H
 own:∀(i:Nat) ds,ρ[i]?=some (some (.own ds))->∃l vs,σ[i]?=some (some (.ref l))/\H l=some (.lst vs)/\G l=none/\H₀ l=none/\Reps K G vs ds
 inj:∀(i j:Nat) ds es l,ρ[i]?=some (some (.own ds))->ρ[j]?=some (some (.own es))->σ[i]?=some (some (.ref l))->σ[j]?=some (some (.ref l))->i=j
 ob:ObSt K H₀ G H σ ρ
section
variable{K:PySem.W.Frag}{H₀ G':Hp}
def StR.ups(s:StR K G₀ H₀ G H σ ρ)(u:Up G H G' H'):StR K G₀ H₀ G' H' σ ρ:=⟨s.e.up u,s.sub0,s.up.trans u,(λi ds e=>by
 obtain⟨l,vs,h1,h2,h3,h4,h5⟩:=s.own i ds e;refine⟨l,vs,h1,u.hh _ _ h2,?_,h4,h5.mono u.gg⟩;cases q:G' l with
 |none=>rfl
 |some o=>
  rcases u.fr l o q with z|z;·rw[h3]at z;cases z
  ·rw[h2]at z;cases z),s.inj,by
 obtain⟨ow,o1,o2⟩:=s.ob;exact⟨ow,o1,λi m C p fs e=>⟨(o2 i m C p fs e).1,(o2 i m C p fs e).2.keep (.up u)⟩⟩⟩
def StR.set(s:StR K G₀ H₀ G H σ ρ)(r:Rep K G v d)(i:Nat):StR K G₀ H₀ G H (σ.set i (some v)) (ρ.set i (some (.val d))):=by
 have get:∀(j:Nat) x,(ρ.set i (some (.val d)))[j]?=some (some x)->(j=i/\x=.val d/\i<σ.length)\/(j≠i/\ρ[j]?=some (some x)/\(σ.set i (some v))[j]?=σ[j]?):=λj x h=>by
  by_cases e:i=j
  ·subst e;have hl:i<ρ.length:=by have:=(List.getElem?_eq_some_iff.mp h).1;simpa using this
   rw[List.getElem?_set_self hl]at h;exact .inl ⟨rfl,by injection (Option.some.inj h)with q;exact q.symm,by rw[s.e.len];exact hl⟩
  ·rw[List.getElem?_set_ne e]at h;exact .inr ⟨λz=>e z.symm,h,List.getElem?_set_ne e⟩
 have ob:ObSt K H₀ G H (σ.set i (some v)) (ρ.set i (some (.val d))):=by
  obtain⟨ow,o1,o2⟩:=s.ob;refine⟨ow,λj ds l h1 h2=>?_,λj m C p fs h1=>?_⟩
  ·rcases get j _ h1 with⟨_,e,_⟩|⟨_,e,e'⟩;·cases e
   ·exact o1 j ds l e (e'▸h2)
  ·rcases get j _ h1 with⟨_,e,_⟩|⟨_,e,e'⟩;·cases e
   ·rw[e'];exact o2 j m C p fs e
 refine⟨⟨s.e.sub,by simp[s.e.len],λj d' h=>?_,ob.rd⟩,s.sub0,s.up,λj ds h=>?_,λj k ds es l h1 h2 h3 h4=>?_,ob⟩
 ·rcases get j _ h with⟨rfl,e,hl⟩|⟨_,e,e'⟩;·cases e;exact⟨v,List.getElem?_set_self hl,r⟩
  ·rw[e'];exact s.e.val j d' e
 ·rcases get j _ h with⟨_,e,_⟩|⟨_,e,e'⟩;·cases e
  ·rw[e'];exact s.own j ds e
 ·rcases get j _ h1 with⟨_,e,_⟩|⟨_,e,e'⟩;·cases e
  ·rcases get k _ h2 with⟨_,f,_⟩|⟨_,f,f'⟩;·cases f
   ·exact s.inj j k ds es l e f (e'▸h3) (f'▸h4)
end
noncomputable def PGF(X:Cx)(tg:Expr)(asg:D->Ev->R Ev):Prop:=PG X tg (λv σ H Q=>∃G₀ H₀ G ρ d ρ',StR X.K G₀ H₀ G H σ ρ/\Rep X.K G v d/\asg d ρ=.ok ρ'/\∀σ',StR X.K G₀ H₀ G H σ' ρ'->Q σ' H)
section
noncomputable def la(i:Nat):D->Ev->R Ev:=λd ρ=>.ok (ρ.set i (some (.val d)))
def di(i:Nat)(hN:X.N.Nodup)(hi:X.N[i]?=some x:=by rfl)(hx:Loc X.env.scope x:=by first|exact Or.inl rfl|exact Or.inr rfl)(hf:X.fn x=true\/X.env.scope.names.lookup x=some .local:=by first|exact .inl rfl|exact .inr rfl):PGF X (.Name x pos) (la i):=by
 intro pins s σ H v u Q I r h;obtain⟨G₀,H₀,G,ρ,d,ρ',st,rd,e,q⟩:=h;cases e;exact jn hN hi hx hf pins s σ H v u Q I r (q _ (st.set rd i))
end
noncomputable def ya(K:PySem.W.Frag)(G H:Hp)(Q:VK):List D->Prop:=λds=>∀l vs G' H',Up G H G' H'->H' l=none->Reps K G' vs ds->Q (.ref l) (upd H' l (.lst vs))
noncomputable def tL(X:Cx)(g:Ev->R (List D)):TE:=λσ H Q=>∃G ρ,StE X.K G H σ ρ/\(g ρ).post (ya X.K G H Q) (Exx X σ G H)
noncomputable def PFL(X:Cx)(e:Expr)(g:Ev->R (List D)):Prop:=PE X e (tL X g)
def wE{e:Expr}{g:Ev->R (List D)}(h:PFL X e g):PF X e (λρ=>g ρ>>=λds=>.ok (.lst false ds)):=by
 intro pins s σ H Q I hq;refine h pins s σ H Q I ?_;obtain⟨G,ρ,st,hq⟩:=hq
 try dsimp only at hq
 refine⟨G,ρ,st,?_⟩;cases e:g ρ with
 |ok ds=>rw[e]at hq;intro l vs G' H' u hl r;exact hq _ _ _ (u.trans (.new u.sub hl)) (.lst aF (r.mono (.into (u.sub.free hl))))
 |ex C=>rw[e]at hq;exact hq
 |no=>rw[e]at hq;exact hq
def Gj(h:PFA X es gl):PFL X (.List es pos) (λρ=>gl ρ>>=λds=>if ds.length<=sizeLine then .ok ds else .no):=by
 intro pins s σ H Q I hq;refine Jt h pins s σ H Q I ?_;obtain⟨G,ρ,st,hq⟩:=hq
 try dsimp only at hq
 refine⟨G,ρ,st,?_⟩;cases e:gl ρ with
 |ok ds=>
  rw[e]at hq;intro vs G' H' u r;simp only[R.ok_bind]at hq;split at hq;·rename_i hz;exact⟨by rw[r.length];exact hz,λp hp=>hq p vs G' H' u hp r⟩
  ·exact hq.elim
 |ex C=>rw[e]at hq;exact hq
 |no=>rw[e]at hq;exact hq
noncomputable def yr(env:Env):List (Str×NameKind)->List (Str×Addr)->List (Str×Addr)
 | [],cs=>cs
 | (n,k)::r,cs=>yr env r (if (k==.free)=true then (match env.cells.lookup n with|some c=>(n,c)::cs|none=>cs)else cs)
theorem vz{env:Env}{F:Str×NameKind->List (Str×Addr)->Sem (ForInStep (List (Str×Addr)))}(hF:∀n k r,(k=NameKind.free->∃c,env.cells.lookup n=some c)->F (n,k) r=pure (ForInStep.yield (if (k==.free)=true then (match env.cells.lookup n with|some c=>(n,c)::r|none=>r)else r))):
  ∀(l:List (Str×NameKind))(cs:List (Str×Addr)),(∀x∈l,x.2=.free->∃c,env.cells.lookup x.1=some c)->forIn l cs F=pure (yr env l cs)
 | [],cs,_=>rfl
 | (n,k)::l,cs,h=>by rw[List.forIn_cons,hF n k cs (h (n,k) List.mem_cons_self),pure_bind];exact vz hF l _ λy hy=>h y (List.mem_cons_of_mem _ hy)
def jU{env:Env}(h:∀x∈scope.names,x.2=.free->∃c,env.cells.lookup x.1=some c):closureFor scope env=pure (yr env scope.names []):=by
 simp only[closureFor];rw[vz (λn k r hk=>?_) scope.names [] h];·rfl
 ·by_cases hf:(k==NameKind.free)=true;·obtain⟨c,hc⟩:=hk (by simpa using hf);simp only[hf,if_true,cellOf,hc,pure_bind]
  ·simp only[hf,if_false];rfl
theorem vY{env:Env}:∀(l:List (Str×NameKind))(cs:List (Str×Addr)),(∀x c,cs.lookup x=some c->env.cells.lookup x=some c)->∀x c,(yr env l cs).lookup x=some c->env.cells.lookup x=some c
 | [],cs,h,x,c,e=>h x c e
 | (n,k)::l,cs,h,x,c,e=>by
  refine vY l _ (λy d ed=>?_) x c e;split at ed
  ·split at ed
   ·rename_i c' hc';rw[List.lookup_cons]at ed;split at ed;·rename_i q;rw[eq_of_beq q];rw[<- Option.some.inj ed];exact hc'
    ·exact h y d ed
   ·exact h y d ed
  ·exact h y d ed
theorem pY{env:Env}:∀(l:List (Str×NameKind))(cs:List (Str×Addr))(x:Str),((∃c,cs.lookup x=some c)\/((x,NameKind.free)∈l/\∃c,env.cells.lookup x=some c))->∃c,(yr env l cs).lookup x=some c
 | [],cs,x,h=>by
  rcases h with h|⟨h,_⟩;·exact h
  ·cases h
 | (n,k)::l,cs,x,h=>by
  refine pY l _ x ?_;rcases h with⟨c,h⟩|⟨h,c,hc⟩
  ·left;split
   ·split
    ·rw[List.lookup_cons];split;·exact⟨_,rfl⟩
     ·exact⟨c,h⟩
    ·exact⟨c,h⟩
   ·exact⟨c,h⟩
  ·rcases List.mem_cons.mp h with e|h;·cases e;left;rw[if_pos (by rfl),hc];exact⟨c,by simp[List.lookup_cons]⟩
   ·exact .inr ⟨h,c,hc⟩
noncomputable def bQ(X:Cx)(N':List Str)(scope:Scope)(C:Addr)(s₂:Shared)(H₂:Hp)(fp:List Addr):Cx:=
 { X with N:=N',s₀:=s₂,H₀:=H₂,env:=compEnvC scope (yr X.env scope.names []) C X.env,outer:=X.stack,stack:=X.stack,ex:=fp,fn:=λ_=>false,pn:=[],xe:=λ_ _=>False }
noncomputable def fw{α:Type}:R α->R α
 |.ok a=>.ok a
 |_=>.no
noncomputable def jm(ix:List Nat)(ρ:Ev):Ev:=none::ix.map λ(i:Nat)=>match ρ[i]? with
 |some (some (.val d))=>some (.val d)
 |_=>none
noncomputable def gP(n:Nat)(ix:List Nat)(ρ:Ev):Ev:=List.replicate n none++ix.map λ(i:Nat)=>match ρ[i]? with
 |some (some (.val d))=>some (.val d)
 |_=>none
noncomputable def gX(asg:D->Ev->R Ev)(gt:Ev->R Bool)(ge:Ev->R D):List D->Ev->R (List D)
 | [],_=>.ok []
 |d::ds,ρ=>fw (asg d ρ)>>=λρ1=>fw (gt ρ1)>>=λk=>if k=true then fw (ge ρ1)>>=λx=>gX asg gt ge ds ρ1>>=λxs=>.ok (x::xs)else gX asg gt ge ds ρ1
noncomputable def gW(gt:Ev->R Bool)(ge:Ev->R D):List D->Ev->R (List D):=gX (la 0) gt ge
theorem kz{asg:D->Ev->R Ev}{gt:Ev->R Bool}{ge:Ev->R D}:∀(ds:List D)(ρ:Ev),(∃xs,gX asg gt ge ds ρ=.ok xs)\/gX asg gt ge ds ρ=.no
 | [],ρ=>.inl ⟨[],rfl⟩
 |d::ds,ρ=>by
  unfold gX;cases asg d ρ with
  |ok ρ1=>
   simp only[fw,R.ok_bind];cases gt ρ1 with
   |ok k=>
    cases k with
    |true=>
     cases ge ρ1 with
     |ok x=>
      rcases kz ds ρ1 with⟨xs,e⟩|e;·rw[e];exact .inl ⟨_,rfl⟩
      ·rw[e];exact .inr rfl
     |ex C=>exact .inr rfl
     |no=>exact .inr rfl
    |false=>simp only[Bool.false_eq_true,if_false];exact kz ds _
   |ex C=>exact .inr rfl
   |no=>exact .inr rfl
  |ex C=>exact .inr rfl
  |no=>exact .inr rfl
noncomputable def ib(gi:Ev->R (List D))(ix:List Nat)(gt:Ev->R Bool)(ge:Ev->R D):Ev->R (List D):=λρ=>gi ρ>>=λitems=>gW gt ge items (jm ix ρ)>>=λds=>if ds.length<=sizeLine then .ok ds else .no
noncomputable def oT(n:Nat)(asg:D->Ev->R Ev)(gi:Ev->R (List D))(ix:List Nat)(gt:Ev->R Bool)(ge:Ev->R D):Ev->R (List D):=λρ=>gi ρ>>=λitems=>gX asg gt ge items (gP n ix ρ)>>=λds=>if ds.length<=sizeLine then .ok ds else .no
noncomputable def PTs(X:Cx)(ifs:List Expr)(gt:Ev->R Bool):Prop:=∀(pins:List (Addr×Obj))(s:Shared)(σ:St)(H:Hp)(Q:Bool->Hp->Prop),Inv X pins σ H s->tTF X gt σ H Q->
 wpAny (model X.prog X.w) X.A (forIn ifs true λc r=>if r=true then do let ok <- isTrue c X.env (eval c X.env);pure (ForInStep.yield ok)else pure (ForInStep.yield r)) (TP X pins σ Q) X.xe s
def jA:PTs X [] (λ_=>.ok true):=by intro pins s σ H Q I h;obtain⟨G,ρ,st,h⟩:=h;exact wpAny_pure ⟨H,I,h true G H (.refl st.sub) rfl⟩
def zO{c:Expr}{gt:Ev->R Bool}(h:PB X c gt):PTs X [c] gt:=λpins s σ H Q I q=>wpAny_tests_one (h pins s σ H Q I q)
def Un.sameBut{fs ex:List Addr}{h1 h2:Heap}(u:Un fs ex H H' h h1)(k:∀b o,b≠C->h1.get? b=some o->h2.get? b=some o)(hC:h.objs.size<=C):Un fs ex H H' h h2:=by have ne:∀b o,h.get? b=some o->b≠C:=λb o e=>Nat.ne_of_lt (Nat.lt_of_lt_of_le (Heap.lt_size e) hC);exact⟨λb o e n hb hx=>k b o (ne b o e) (u.keep b o e n hb hx),λb o e n hb hx=>let⟨sl,q⟩:=u.slot b o e n hb hx;⟨sl,k b _ (ne b o e) q⟩,u.free,λb o e hx=>let⟨o',q⟩:=u.there b o e hx;⟨o',k b o' (ne b o e) q⟩,u.tups,u.frzs,u.tbls⟩
def HOk.sameBut{w:World}(x:HOk P w H h)(k:∀b o,b≠C->h.get? b=some o->h'.get? b=some o)(hC:H C=none):HOk P w H h':=λa o e=>by
 refine(x a o e).stay (λb u hb q=>k b u ?_ q) (λ_ z=>z) (λ_ _ z=>z);rcases hb with rfl|hb;·exact aD e hC
 ·exact aD hb hC
section
variable{elt:Expr}{ifs:List Expr}{px:Pos}{N':List Str}{gt:Ev->R Bool}
structure CompOk(X:Cx)(scope:Scope)(x:Str)(N':List Str)(ix:List Nat):Prop where
 kind:scope.kind=.function
 cell:∀y∈scope.names,y.2≠.cell
 names:∀y∈scope.names,y.2=.local->scope.names.lookup y.1=some .local
 loc:scope.names.lookup x=some .local
 fr:∀y∈scope.names,y.2=.free->X.env.kindOf y.1=some .cell
 nd:N'.Nodup
 hd:N'[0]?=some x
 tl:N'.tail=ix.map λ(i:Nat)=>X.N.getD i Str.empty
 lt:∀i∈ix,i<X.N.length
 fre:∀y∈N'.tail,scope.names.lookup y=some .free/\(y,NameKind.free)∈scope.names
structure CompOkT(X:Cx)(scope:Scope)(n:Nat)(N':List Str)(ix:List Nat):Prop where
 kind:scope.kind=.function
 cell:∀y∈scope.names,y.2≠.cell
 names:∀y∈scope.names,y.2=.local->scope.names.lookup y.1=some .local
 fr:∀y∈scope.names,y.2=.free->X.env.kindOf y.1=some .cell
 le:n<=N'.length
 tl:N'.drop n=ix.map λ(i:Nat)=>X.N.getD i Str.empty
 lt:∀i∈ix,i<X.N.length
 fre:∀y∈N'.drop n,scope.names.lookup y=some .free/\(y,NameKind.free)∈scope.names
def CompOk.t(ok:CompOk X scope x N' ix):CompOkT X scope 1 N' ix:=
 ⟨ok.kind,ok.cell,ok.names,ok.fr,(List.getElem?_eq_some_iff.mp ok.hd).1,List.drop_one▸ok.tl,ok.lt,List.drop_one▸ok.fre⟩
theorem lf{env:Env}(hk:env.scope.kind=.function):∀{names:List (Str×NameKind)}{x:Str},names.lookup x=some .free->env.kindOf x=some .cell->
  (names.map λ(n,k)=>if (k==NameKind.free && env.scope.kind==.function && env.kindOf n==some .cell)then (n,NameKind.cell)else (n,k)).lookup x=some .cell
 | [],_,h,_=>by simp at h
 | (n,k)::r,x,h,hc=>by
  have ih:=@lf env hk r x;show List.lookup x ((if (k==NameKind.free && env.scope.kind==.function && env.kindOf n==some .cell)=true then (n,NameKind.cell)else (n,k))::_)=_;cases hx:x==n with
  |true=>simp only[List.lookup_cons,hx]at h;cases h;have e:=eq_of_beq hx;subst e;rw[if_pos (by rw[hk,hc];rfl)];simp[List.lookup_cons]
  |false=>
   simp only[List.lookup_cons,hx]at h;by_cases hc':(k==NameKind.free && env.scope.kind==.function && env.kindOf n==some .cell)=true;·rw[if_pos hc'];simp only[List.lookup_cons,hx];exact ih h hc
   ·rw[if_neg hc'];simp only[List.lookup_cons,hx];exact ih h hc
def zb{n:Nat}(h:(gP n ix ρ)[j]?=some (some (.val d))):∃k i,j=k+n/\ix[k]?=some i/\ρ[i]?=some (some (.val d)):=by
 unfold gP at h;by_cases hj:j<n;·rw[List.getElem?_append_left (by simpa using hj),List.getElem?_replicate,if_pos hj]at h;cases h
 ·rw[List.getElem?_append_right (by simpa using Nat.not_lt.1 hj),List.length_replicate,List.getElem?_map]at h;cases e:ix[j - n]? with
  |none=>rw[e]at h;cases h
  |some i=>
   rw[e]at h;refine⟨j - n,i,by omega,e,?_⟩;simp only[Option.map_some,Option.some.injEq]at h;split at h;·rename_i d' e';cases h;exact e'
   ·cases h
noncomputable def ji(n:Nat)(ix:List Nat)(σ:St):St:=List.replicate n none++ix.map λ(i:Nat)=>(σ[i]?).join
def mx{n:Nat}:NoOwn (gP n ix ρ):=λj x h=>by
 unfold gP at h;by_cases hj:j<n;·rw[List.getElem?_append_left (by simpa using hj),List.getElem?_replicate,if_pos hj]at h;cases h
 ·rw[List.getElem?_append_right (by simpa using Nat.not_lt.1 hj),List.length_replicate,List.getElem?_map]at h;cases e:ix[j - n]? with
  |none=>rw[e]at h;cases h
  |some i=>
   rw[e]at h;simp only[Option.map_some,Option.some.injEq]at h;split at h;·cases h;exact⟨_,rfl⟩
   ·cases h
def wf{K:PySem.W.Frag}(st:StE K G H σ ρ)(n:Nat)(ix:List Nat):StE K G H (ji n ix σ) (gP n ix ρ):=by refine⟨st.sub,by simp[gP,ji],λj d h=>?_,λj m C p fs h=>absurd h (NoOwn.obj mx j m C p fs)⟩;obtain⟨k,i,rfl,e1,e2⟩:=zb h;obtain⟨v,h1,h2⟩:=st.val i d e2;refine⟨v,?_,h2⟩;unfold ji;rw[List.getElem?_append_right (by simp),List.length_replicate,Nat.add_sub_cancel,List.getElem?_map,e1];simp[h1]
def BL{h₁:Heap}{tk:Nat}{m:Str->Option Value}{n:Nat}(ok:CompOkT X scope n N' ix)(hcalm:X.calm=true)(I:Inv X pins σ H s)(hf:∀b∈fp,oS X pins H b)(hfl:∀b∈fp,b<s.heap.objs.size)(hC:s.heap.objs.size<=C)(hn:h₁.Ns C m)(old:∀b o,s.heap.get? b=some o->h₁.get? b=some o)(un:Un (frs X.stack) fp H H' s.heap h₁)(hok:HOk X.prog X.w H' h₁)(hfC:H' C=none)(hfc:∀c:Addr,c<s.heap.objs.size->H c=none->H' c=none):
  Inv (bQ X N' scope C s H fp) [] (ji n ix σ) H' { s with heap:=h₁,toks:=tk }:=by
 have cl:∀y c,(yr X.env scope.names []).lookup y=some c->X.env.cells.lookup y=some c:=vY scope.names [] (λy c h=>by simp at h);have nlt:N'.length=n+ix.length:=by have h1:=congrArg List.length ok.tl;rw[List.length_drop,List.length_map]at h1;have:=ok.le;omega
 refine⟨⟨I.ok.mod,by show(relabel scope X.env).kind=_;exact ok.kind,I.ok.glob,I.ok.blt,hC,?_,?_,?_,I.ok.hd,I.ok.frames,.inl rfl,?_,I.bs,Nat.le_trans I.ok.bsz I.sz,?_,?_,I.stack,I.stkFree,I.ok.tabs.un I.base⟩,rfl,I.bare,un,?_,?_,hfC,?_,?_,hok,?_⟩;·intro y z c h1 h2;exact I.ok.inj y z c (cl y c h1) (cl z c h2)
 ·intro y hy;have h1:(y,NameKind.free)∈scope.names:=by
   have hy':=hy;have mem:∀k,(relabel scope X.env).names.lookup y=some k->(k=.cell\/k=.free)->(y,NameKind.free)∈scope.names:=λk e hk=>by
    have hm:=PySem.mem_of_lookup e;obtain⟨⟨n,k'⟩,hm1,hm2⟩:=List.mem_map.mp hm;dsimp only at hm2;split at hm2
    ·rename_i hc;cases hm2;have:k'=.free:=by have:=(Bool.and_eq_true _ _▸(Bool.and_eq_true _ _▸hc).1).1;simpa using this
     rw[<- this];exact hm1
    ·cases hm2;rcases hk with rfl|rfl;·exact absurd rfl (ok.cell _ hm1)
     ·exact hm1
   rcases hy' with h|h;·exact mem _ h (.inl rfl)
   ·exact mem _ h (.inr rfl)
  have hc:=I.ok.has y (.inl (ok.fr _ h1 rfl));exact pY scope.names [] y (.inr ⟨h1,hc⟩)
 ·intro y c hfn;cases hfn
 ·intro b hb;obtain⟨f0,f1,f2,f3,f4,f5⟩:=hf b hb;exact⟨λz=>absurd (hfl b hb) (by rw[z];exact Nat.not_lt.mpr hC),λy c h=>f4 y c (cl y c h)⟩
 ·intro b o e hb;obtain⟨f0,f1,f2,f3,f4,f5⟩:=hf b hb;rcases f3 with f3|f3;·exact I.ok.noex b o e f3
  ·exact absurd (Heap.lt_size (I.ok.bs b o e).1) (Nat.not_lt.mpr f3)
 ·intro b hb hb';obtain⟨f0,f1,f2,f3,f4,f5⟩:=hf b hb;rcases List.mem_cons.mp (I.stkSub b hb')with e|e;·exact f1 e
  ·exact f2 e
 ·refine⟨m,hn,λi y v h1 h2 h3=>?_⟩;by_cases hi:i<n;·unfold ji at h2;rw[List.getElem?_append_left (by simpa using hi),List.getElem?_replicate,if_pos hi]at h2;cases h2
  ·unfold ji at h2;rw[List.getElem?_append_right (by simpa using Nat.not_lt.1 hi),List.length_replicate,List.getElem?_map]at h2;cases e:ix[i - n]? with
   |none=>rw[e]at h2;cases h2
   |some i0=>
    rw[e]at h2;have h2':σ[i0]?=some (some v):=by
     cases q:σ[i0]? with
     |none=>rw[Option.map_some,q]at h2;cases h2
     |some z=>rw[Option.map_some,q]at h2;have:=Option.some.inj h2;rw[<- this];rfl
    have ht:(N'.drop n)[i - n]?=some y:=by rw[List.getElem?_drop,Nat.add_sub_cancel' (Nat.not_lt.1 hi)];exact h1
    have hy:X.N[i0]?=some y:=by have ht2:=ht;rw[ok.tl,List.getElem?_map,e]at ht2;have hl:=ok.lt i0 (List.mem_of_getElem? e);have q:=Option.some.inj ht2;rw[List.getElem?_eq_getElem hl];rw[<- q];show some X.N[i0]=some (X.N.getD i0 Str.empty);rw[List.getD_eq_getElem?_getD,List.getElem?_eq_getElem hl];rfl
    obtain⟨fr1,fr2⟩:=ok.fre y (List.mem_of_getElem? ht);have kc:=ok.fr _ fr2 rfl;obtain⟨m0,hn0,hl⟩:=I.loc;obtain⟨u,ru,lk⟩:=hl i0 y v hy h2' (.inr (.inl kc));refine⟨u,ru,.inr ⟨.inl (lf I.ok.kind fr1 kc),?_⟩⟩;rcases lk with⟨z,_⟩|⟨_,c,hc,hcell⟩;·rw[kc]at z;cases z
    ·obtain⟨c',hc'⟩:=pY scope.names [] y (.inr ⟨fr2,c,hc⟩);have:=cl y c' hc';rw[hc]at this;cases this;exact⟨c,hc',hcell.keeps old⟩
 ·intro y c h;obtain⟨v,q⟩:=I.cell y c (cl y c h);exact⟨v,q.keeps old⟩
 ·intro y c h;obtain⟨v,q⟩:=I.cell y c (cl y c h);exact hfc c q.lt (I.freeC y c (cl y c h))
 ·intro p hp;exact absurd (show p∈([]:List (Addr×Obj)) from hp) (by simp)
 ·show(ji n ix σ).length=N'.length;rw[nlt];simp[ji]
def xI{prog:Program}{w:World}{A:Around}{R':Result->Shared->Prop}{elt target:Expr}{ifs:List Expr}{it acc:Value}{env:Env}(I:Nat->Shared->Prop)(turn:∀n s,I n s->wpAny (model prog w) A (pyNext it) (λr s₁=>match r with
 |none=>R' (.ok .next) s₁
 |some v=>wpAny (model prog w) A (letOwnedTupleGo target it v) (λ_ s₁'=>wpAny (model prog w) A (assign target env v) (λ_ s₂=>
 wpAny (model prog w) A (forIn ifs true λc r=>if r=true then do let ok <- isTrue c env (eval c env);pure (ForInStep.yield ok)else pure (ForInStep.yield r)) (λok s₃=>
 if ok=true then wpAny (model prog w) A (eval elt env) (λx s₄=>
 wpAny (model prog w) A (call (.builtin "list.append") [acc,x]) (λ_ s₅=>∃m,m<n/\I m s₅) (λ_ _=>False) s₄) (λ_ _=>False) s₃
 else ∃m,m<n/\I m s₃) (λ_ _=>False) s₂) (λ_ _=>False) s₁') (λ_ _=>False) s₁) (λ_ _=>False) s)(n:Nat)(h:I n s):
  codeAny (model prog w) A (.compLoop (.ListComp elt [⟨target,iter,ifs,0⟩] scope pos) 0 it acc env) R' s:=by
 refine codeAny_loop rfl I (λn s hI=>?_) n h;refine wpAny_noted ?_;refine wpAny_bind (wpAny_standAt (wpAny_bind (wpAny_mono (turn n s hI) (λr s₁ h₁=>?_) λ_ _ z=>z.elim)));cases r with
 |none=>exact wpAny_pure h₁
 |some v=>
  refine wpAny_bind (wpAny_mono h₁ (λ_ s₁' h₁'=>?_) λ_ _ z=>z.elim);refine wpAny_bind (wpAny_mono h₁' (λ_ s₂ h₂=>wpAny_bind (wpAny_mono h₂ (λok s₃ h₃=>?_) λ_ _ z=>z.elim)) λ_ _ z=>z.elim);cases ok with
  |false=>exact wpAny_pure ⟨rfl,h₃⟩
  |true=>exact wpAny_bind (wpAny_bind (wpAny_mono h₃ (λx s₄ h₄=>wpAny_bind (wpAny_mono h₄ (λ_ s₅ h₅=>wpAny_pure (wpAny_pure ⟨rfl,h₅⟩)) λ_ _ z=>z.elim)) λ_ _ z=>z.elim))
def wJ:∀d ρ ρ',la i d ρ=.ok ρ'->NoOwn ρ->NoOwn ρ':=by
 intro d ρ ρ' e h j x q;have e':=R.ok.inj e;rw[<- e',List.getElem?_set]at q;split at q
 ·split at q;·cases q;exact⟨d,rfl⟩
  ·cases q
 ·exact h j x q
def nG{n:Nat}{tn:Nat->Heap->Prop}{J:It}{items:List D}{Q:VK}{RR:Value->Addr->Result->Shared->Prop}{E:Value->Shared->Prop}(ok:CompOkT X scope n N' ix)(hcalm:X.calm=true)(hg:∀C s₂ H₂ fp,PGF (bQ X N' scope C s₂ H₂ fp) tgt asg)(hown:∀d ρ ρ',asg d ρ=.ok ρ'->(NoOwn ρ)->NoOwn ρ')(he:∀C s₂ H₂ fp,PF (bQ X N' scope C s₂ H₂ fp) elt ge)(ht:∀C s₂ H₂ fp,PTs (bQ X N' scope C s₂ H₂ fp) ifs gt)(I:Inv X pins σ H s)(T:Turn X.prog X.w X.K tgt J fp it tn)(st0:tn 0 s.heap)(hf:∀b∈fp,oS X pins H b)(st:StE X.K G H σ ρ)(hi:ItOk X.K G J items)(h:(gX asg gt ge items (gP n ix ρ)>>=λds=>if ds.length<=sizeLine then R.ok ds else .no).post (ya X.K G H Q) (Exx X σ G H))(hR:∀(Dd C:Addr)(s':Shared)(m:Str->Option Value)(vs:List V)(G' H':Hp),Up G H G' H'->H' Dd=none->C≠Dd->(∀ds,Reps X.K G' vs ds->True)->Q (.ref Dd) (upd H' Dd (.lst vs))->s'.heap.Ns C m->s'.os=s.os->AllBare s'.gens->H' C=none->s.heap.objs.size<=C->
 Un (frs X.stack) fp H (upd H' Dd (.lst vs)) s.heap s'.heap->HOk X.prog X.w (upd H' Dd (.lst vs)) s'.heap->RR (.ref Dd) C (.ok .next) s'):
  wpAny (model X.prog X.w) X.A (newList []) (λacc s₃=>wpAny (model X.prog X.w) X.A (newFunctionEnv scope X.env.globals (yr X.env scope.names []) [] X.env.qual none .none (some X.env)) (λcenv s₄=>codeAny (model X.prog X.w) X.A (.compStart (.ListComp elt [⟨tgt,iter,ifs,0⟩] scope pos) 0 (.ref it) acc { cenv with scope:=relabel scope X.env }) (RR acc cenv.locals) s₄) E s₃) E s:=by
 have hfl:∀b∈fp,b<s.heap.objs.size:=λb hb=>let⟨o,e,_⟩:=T.obj 0 s.heap st0 b hb;Heap.lt_size e;refine wpAny_newObj_type (wpAny_newFunctionEnv ok.cell (by intro y hy;simp at hy) (λh₁ hns₁ hsb₁=>?_) ok.kind);dsimp only at hns₁ hsb₁⊢;generalize hH2:s.heap.push { cls:=.type "list",dict:=none,data:=.seq ([]:List Value).toArray }=Hq at hns₁ hsb₁⊢;have hC:Hq.objs.size=s.heap.objs.size+1:=by rw[<- hH2,Heap.size_push]
 have hDC:s.heap.objs.size≠Hq.objs.size:=by rw[hC];exact Nat.ne_of_lt (Nat.lt_succ_self _)
 have hCle:s.heap.objs.size<=Hq.objs.size:=by rw[hC];exact Nat.le_succ _
 have old:∀b o,s.heap.get? b=some o->h₁.get? b=some o:=λb o e=>
  hsb₁.extBut b o (by rw[hC];exact Nat.ne_of_lt (Nat.lt_succ_of_lt (Heap.lt_size e))) (Heap.get?_push_of_some _ (hH2▸Heap.get?_push_of_some _ e));have hacc:=hsb₁.extBut _ _ hDC (Heap.get?_push_of_some _ (hH2▸Heap.get?_push_size _ rfl));have hD0:=I.fresh;have hC0:=I.hok.fresh hCle;have st0':=T.keep 0 _ _ st0 λb hb o e=>old b o e;have I0:∀tk,Inv (bQ X N' scope Hq.objs.size s H fp) [] (ji n ix σ) (upd H s.heap.objs.size (.lst [])) { s with heap:=h₁,toks:=tk }:=λtk=>by
  refine BL ok hcalm I hf hfl hCle hns₁ old (Un.laid old (Nat.le_refl _) hD0) (I.hok.laid old (Nat.le_refl _) ⟨Nat.zero_le _,[],0,.nil,hacc⟩) (by rw[aw hDC.symm];exact hC0) λc hc e=>?_;rw[aw (Nat.ne_of_lt hc)];exact e
 have loop:∀tk,codeAny (model X.prog X.w) X.A (.compLoop (.ListComp elt [⟨tgt,iter,ifs,0⟩] scope pos) 0 (.ref it) (.ref s.heap.objs.size) (compEnvC scope (yr X.env scope.names []) Hq.objs.size X.env))
   (RR (.ref s.heap.objs.size) Hq.objs.size) { s with heap:=h₁,toks:=tk }:=λtk=>by
  have fpk:∀{pins':List (Addr×Obj)}{σ':St}{H':Hp}{s':Shared},Inv (bQ X N' scope Hq.objs.size s H fp) pins' σ' H' s'->pins'=[]->(∀b∈fp,H' b=none)->∀b∈fp,oS (bQ X N' scope Hq.objs.size s H fp) pins' H' b:=λI' e hn b hb=>⟨hn b hb,(I'.ok.exf b hb).1,I'.ok.exfs b hb,.inl hb,(I'.ok.exf b hb).2,by subst e;intro p hp;exact absurd (show p∈([]:List (Addr×Obj)) from hp) (by simp)⟩
  refine xI (λnn s'=>∃(i:Nat)(σ':St)(G' H':Hp)(ρ':Ev)(vs:List V)(ys:List D),nn=items.length - i/\i<=items.length/\Inv (bQ X N' scope Hq.objs.size s H fp) [] σ' H' s'/\tn i s'.heap/\(∀b∈fp,H' b=none)/\
   H' s.heap.objs.size=some (.lst vs)/\G' s.heap.objs.size=none/\Up G H G' H'/\StE X.K G' H' σ' ρ'/\(NoOwn ρ')/\Reps X.K G' vs ys/\
   (gX asg gt ge (items.drop i) ρ'>>=λzs=>if (ys++zs).length<=sizeLine then R.ok (ys++zs)else .no).post (ya X.K G H Q) (Exx X σ G H)) ?_ items.length
   ⟨0,ji n ix σ,G,upd H s.heap.objs.size (.lst []),gP n ix ρ,[],[],by simp,Nat.zero_le _,I0 tk,st0',λb hb=>by rw[aw (Nat.ne_of_lt (hfl b hb))];exact(hf b hb).1,aF,st.sub.free hD0,
    ⟨λa o e=>by rw[aw (aD e (st.sub.free hD0))];exact st.sub a o e,.refl _,.into hD0,λ_ _ e=>.inl e⟩,
    ⟨λa o e=>by rw[aw (aD e (st.sub.free hD0))];exact st.sub a o e,(wf st n ix).len,(wf st n ix).val,λj m C p fs h=>absurd h (NoOwn.obj mx j m C p fs)⟩,mx,.nil,by simpa using h⟩;rintro nn s' ⟨i,σ',G',H',ρ',vs,ys,rfl,hil,I',tn',fr',hD',gD',up',st',no',rp',h'⟩;have hIt:=hi i G' H' up'.gg st'.sub;by_cases hlt:i<items.length
  ·have hd:=List.drop_eq_getElem_cons hlt;rw[hd]at h';obtain⟨go,yl⟩:=hIt.1 items[i] (by simp[hlt]);refine wpAny_mono (T.item (bQ X N' scope Hq.objs.size s H fp) rfl rfl rfl hcalm i [] s' σ' H' (λ_ _=>False) I' (fpk I' rfl fr') tn' go) (λr s1 ⟨u,hr,h1⟩=>?_) λ_ _ z=>z;subst hr;refine wpAny_mono h1 (λ_ s2 ⟨x2,H2,I2,r2,y2,tn2,fr2⟩=>?_) λ_ _ z=>z;obtain⟨G2,up2,rep2⟩:=yl x2 H2 y2;have I2p:=I2.pinned (fpk I2 rfl fr2) (T.obj _ _ tn2);have st2:=st'.up up2;have sr2:StR X.K G2 H2 G2 H2 σ' ρ':=⟨st2,up2.sub,.refl up2.sub,λj ds e=>absurd e (no'.own j ds),λj k ds es l e=>absurd e (no'.own j ds),no'.ob⟩
   have ea:∃ρ1,asg items[i] ρ'=.ok ρ1:=by
    unfold gX at h';cases q:asg items[i] ρ' with
    |ok k=>exact⟨k,rfl⟩
    |_=>rw[q]at h';exact h'.elim
   obtain⟨ρ1,ea⟩:=ea;unfold gX at h';rw[ea]at h';simp only[fw,R.ok_bind]at h';refine wpAny_mono (hg Hq.objs.size s H fp _ s2 σ' H2 x2 u (λσ3 H3=>H3=H2/\StR X.K G2 H2 G2 H2 σ3 ρ1) I2p r2
    ⟨G2,H2,G2,ρ',items[i],_,sr2,rep2,ea,λσ3 q=>⟨rfl,q⟩⟩) (λ_ s3 ⟨σ3,H3,I3,e3,sr3⟩=>?_) λ_ _ z=>z;subst e3;have no3:=hown _ _ _ ea no';have hD2:=up2.hh _ _ hD';have gD2:G2 s.heap.objs.size=none:=by
    cases q:G2 s.heap.objs.size with
    |none=>rfl
    |some o=>
     rcases up2.fr _ _ q with z|z;·rw[gD']at z;cases z
     ·rw[hD']at z;cases z
   have ek:∃k,gt ρ1=.ok k:=by
    cases q:gt ρ1 with
    |ok k=>exact⟨k,rfl⟩
    |_=>rw[q]at h';exact h'.elim
   obtain⟨k,ek⟩:=ek;rw[ek]at h';simp only[fw,R.ok_bind]at h';refine wpAny_mono (ht Hq.objs.size s H fp _ s3 σ3 H3 (λb H4=>b=k/\∃G4,Up G2 H3 G4 H4) I3 ⟨G2,_,sr3.e,by rw[ek];exact λb G4 H4 u4 e4=>⟨e4,G4,u4⟩⟩) (λb s4 ⟨H4,I4,eb,G4,up4⟩=>?_) λ_ _ z=>z;subst eb;have next:∀{H7:Hp}{s7:Shared}{G7:Hp}{vs7:List V}{ys7:List D},Inv (bQ X N' scope Hq.objs.size s H fp) ([]++se fp s2.heap) σ3 H7 s7->H7 s.heap.objs.size=some (.lst vs7)->G7 s.heap.objs.size=none->Up G H G7 H7->StE X.K G7 H7 σ3 ρ1->Reps X.K G7 vs7 ys7->
     (gX asg gt ge (items.drop (i+1)) ρ1>>=λzs=>if (ys7++zs).length<=sizeLine then R.ok (ys7++zs)else .no).post (ya X.K G H Q) (Exx X σ G H)->
     ∃m,m<items.length - i/\∃(i:Nat)(σ':St)(G' H':Hp)(ρ':Ev)(vs:List V)(ys:List D),m=items.length - i/\i<=items.length/\Inv (bQ X N' scope Hq.objs.size s H fp) [] σ' H' s7/\tn i s7.heap/\(∀b∈fp,H' b=none)/\
      H' s.heap.objs.size=some (.lst vs)/\G' s.heap.objs.size=none/\Up G H G' H'/\StE X.K G' H' σ' ρ'/\(NoOwn ρ')/\Reps X.K G' vs ys/\
      (gX asg gt ge (items.drop i) ρ'>>=λzs=>if (ys++zs).length<=sizeLine then R.ok (ys++zs)else .no).post (ya X.K G H Q) (Exx X σ G H):=λ{H7 s7 G7 vs7 ys7} I7 hD7 gD7 up7 st7 rp7 h7=>by
    have pin:∀b∈fp,∀o,s2.heap.get? b=some o->s7.heap.get? b=some o/\H7 b=none:=λb hb o e=>by have:=I7.pin (b,o) (List.mem_append_right _ (List.mem_append_right _ (kT hb e)));exact⟨this.1,this.2.1⟩
    refine⟨items.length - (i+1),by omega,i+1,σ3,G7,H7,_,vs7,ys7,rfl,hlt,I7.unpinned,T.keep _ _ _ tn2 λb hb o e=>(pin b hb o e).1,λb hb=>?_,hD7,gD7,up7,st7,no3,rp7,h7⟩;obtain⟨o,e,_⟩:=T.obj _ _ tn2 b hb;exact(pin b hb o e).2
   have hD4:=up4.hh _ _ hD2;have gD4:G4 s.heap.objs.size=none:=by
    cases q:G4 s.heap.objs.size with
    |none=>rfl
    |some o=>
     rcases up4.fr _ _ q with z|z;·rw[gD2]at z;cases z
     ·rw[hD2]at z;cases z
   cases b with
   |false=>exact next I4 hD4 gD4 ((up'.trans up2).trans up4) (sr3.e.up up4) ((rp'.mono up2.gg).mono up4.gg) h'
   |true=>
    simp only[if_true]at h'⊢;have ex:∃y,ge ρ1=.ok y:=by
     cases q:ge ρ1 with
     |ok y=>exact⟨y,rfl⟩
     |_=>rw[q]at h';exact h'.elim
    obtain⟨y,ey⟩:=ex;rw[ey]at h';refine wpAny_mono (he Hq.objs.size s H fp _ s4 σ3 H4 (λv H5=>∃G5,Up G4 H4 G5 H5/\Rep X.K G5 v y) I4 ⟨G4,_,sr3.e.up up4,by rw[ey];exact λv G5 H5 u5 r5=>⟨G5,u5,r5⟩⟩) (λu5 s5 ⟨v5,H5,I5,r5,G5,up5,rep5⟩=>?_) λ_ _ z=>z;have hD5:=up5.hh _ _ hD4;have gD5:G5 s.heap.objs.size=none:=by
     cases q:G5 s.heap.objs.size with
     |none=>rfl
     |some o=>
      rcases up5.fr _ _ q with z|z;·rw[gD4]at z;cases z
      ·rw[hD4]at z;cases z
    have ups:=((up'.trans up2).trans up4).trans up5;rcases kz (items.drop (i+1)) ρ1 with⟨zs,ez⟩|ez
    ·rw[ez]at h';simp only[R.ok_bind]at h';have hz:(ys++y::zs).length<=sizeLine:=by
      by_cases hz:(ys++y::zs).length<=sizeLine;·exact hz
      ·rw[if_neg hz]at h';exact h'.elim
     have hvl:vs.length<sizeLine:=by rw[rp'.length];rw[List.length_append,List.length_cons]at hz;omega
     refine wpAny_mono (mw (X:=bQ X N' scope Hq.objs.size s H fp) _ s5 σ3 H5 (.ref s.heap.objs.size) [v5] (.ref s.heap.objs.size) [u5] (λ_ H6=>H6=upd H5 s.heap.objs.size (.lst (vs++[v5]))) I5 rfl (.cons r5 .nil)
      ⟨_,vs,v5,rfl,rfl,hD5,hvl,rfl⟩) (λ_ s6 ⟨_,H6,I6,_,e6⟩=>?_) λ_ _ z=>z;subst e6;have sub6:Same G5 (upd H5 s.heap.objs.size (.lst (vs++[v5]))):=λa o e=>by rw[aw (aD e gD5)];exact up5.sub a o e
     refine next I6 aF gD5 ⟨sub6,ups.gg,λa o e=>?_,ups.fr⟩ ?_ ((((rp'.mono up2.gg).mono up4.gg).mono up5.gg).append (.cons rep5 .nil)) ?_
     ·rw[aw (aD e hD0)];exact ups.hh a o e
     ·exact⟨sub6,((sr3.e.up up4).up up5).len,((sr3.e.up up4).up up5).val,λj m C p fs h=>absurd h (no3.obj j m C p fs)⟩
     ·rw[ez];simp only[R.ok_bind,List.append_assoc,List.singleton_append];exact h'
    ·rw[ez]at h';exact h'.elim
  ·have hie:i=items.length:=by omega
   subst hie;rw[List.drop_length]at h';unfold gX at h';simp only[R.ok_bind,List.append_nil]at h';refine wpAny_mono (T.done (bQ X N' scope Hq.objs.size s H fp) rfl rfl rfl hcalm items.length [] s' σ' H' (λ_ _=>False) I' (fpk I' rfl fr') tn' (hIt.2 (Nat.le_refl _))) (λr s1 ⟨hr,I1⟩=>?_) λ_ _ z=>z;subst hr;have hz:ys.length<=sizeLine:=by
    by_cases hz:ys.length<=sizeLine;·exact hz
    ·rw[if_neg hz]at h';exact h'.elim
   rw[if_pos hz]at h';have eH:upd (λa=>if a=s.heap.objs.size then none else H' a) s.heap.objs.size (.lst vs)=H':=by
    funext a
    unfold upd;by_cases e:a=s.heap.objs.size;·subst e;rw[if_pos rfl];exact hD'.symm
    ·rw[if_neg e];show(if a=s.heap.objs.size then none else H' a)=_;rw[if_neg e]
   have hn:(λa=>if a=s.heap.objs.size then none else H' a) s.heap.objs.size=none:=by simp
   have upn:Up G H G' (λa=>if a=s.heap.objs.size then none else H' a):=by
    refine⟨λa o e=>?_,up'.gg,λa o e=>?_,up'.fr⟩;·have:a≠s.heap.objs.size:=aD e gD';simp only[this,if_false];exact up'.sub a o e
    ·have:a≠s.heap.objs.size:=aD e hD0;simp only[this,if_false];exact up'.hh a o e
   obtain⟨m1,hm1,_⟩:=I1.loc;refine hR s.heap.objs.size Hq.objs.size s1 m1 vs G' _ upn hn hDC.symm (λ_ _=>trivial) (h' _ vs G' _ upn hn rp') hm1 I1.os I1.bare ?_ hCle (by rw[eH];exact I1.base) (by rw[eH];exact I1.hok);have:=I1.free;rw[if_neg hDC.symm];exact this
 exact codeAny_compStart_list (loop _) (T.self X.A 0 _ _ _ st0' (loop _))
def xB{tn:Nat->Heap->Prop}{J:It}{items:List D}{Q:VK}{RR:Value->Addr->Result->Shared->Prop}{E:Value->Shared->Prop}(ok:CompOk X scope x N' ix)(hcalm:X.calm=true)(he:∀C s₂ H₂ fp,PF (bQ X N' scope C s₂ H₂ fp) elt ge)(ht:∀C s₂ H₂ fp,PTs (bQ X N' scope C s₂ H₂ fp) ifs gt)(I:Inv X pins σ H s)(T:Turn X.prog X.w X.K (.Name x px) J fp it tn)(st0:tn 0 s.heap)(hf:∀b∈fp,oS X pins H b)(st:StE X.K G H σ ρ)(hi:ItOk X.K G J items)(h:(gW gt ge items (jm ix ρ)>>=λds=>if ds.length<=sizeLine then R.ok ds else .no).post (ya X.K G H Q) (Exx X σ G H))(hR:∀(Dd C:Addr)(s':Shared)(m:Str->Option Value)(vs:List V)(G' H':Hp),Up G H G' H'->H' Dd=none->C≠Dd->(∀ds,Reps X.K G' vs ds->True)->Q (.ref Dd) (upd H' Dd (.lst vs))->s'.heap.Ns C m->s'.os=s.os->AllBare s'.gens->H' C=none->s.heap.objs.size<=C->
 Un (frs X.stack) fp H (upd H' Dd (.lst vs)) s.heap s'.heap->HOk X.prog X.w (upd H' Dd (.lst vs)) s'.heap->RR (.ref Dd) C (.ok .next) s'):
  wpAny (model X.prog X.w) X.A (newList []) (λacc s₃=>wpAny (model X.prog X.w) X.A (newFunctionEnv scope X.env.globals (yr X.env scope.names []) [] X.env.qual none .none (some X.env)) (λcenv s₄=>codeAny (model X.prog X.w) X.A (.compStart (.ListComp elt [⟨.Name x px,iter,ifs,0⟩] scope pos) 0 (.ref it) acc { cenv with scope:=relabel scope X.env }) (RR acc cenv.locals) s₄) E s₃) E s:=
 nG ok.t hcalm (λC s₂ H₂ fp=>di 0 ok.nd ok.hd (.inl (lookup_relabel_local ok.loc)) (.inr (lookup_relabel_local ok.loc))) wJ he ht I T st0 hf st hi h hR
def eW(ok:CompOk X scope x N' ix)(hcalm:X.calm=true)(hi:PIF X (.Name x px) iter gi)(he:∀C s₂ H₂ fp,PF (bQ X N' scope C s₂ H₂ fp) elt ge)(ht:∀C s₂ H₂ fp,PTs (bQ X N' scope C s₂ H₂ fp) ifs gt)(hs:∀x,foldedSetIterable iter X.env x=pure x:=by intro _;rfl):PFL X (.ListComp elt [⟨.Name x px,iter,ifs,0⟩] scope pos) (ib gi ix gt ge):=by
 intro pins s σ H Q I h;obtain⟨G,ρ,st,h⟩:=h;refine wpAny_comprehension_free rfl hs (jU λy hy hy2=>I.ok.has y.1 (.inl (ok.fr y hy hy2))) ok.kind ok.names ?_;have t:tG X (λG J items=>ItOk X.K G J items) gi σ H (λJ H1=>∃G1 items,Up G H G1 H1/\StE X.K G1 H1 σ ρ/\ItOk X.K G1 J items/\(gW gt ge items (jm ix ρ)>>=λds=>if ds.length<=sizeLine then R.ok ds else .no).post (ya X.K G H Q) (Exx X σ G H)):=by
  refine⟨G,ρ,st,?_⟩;unfold ib at h;cases e:gi ρ with
  |ok items=>rw[e]at h;exact λJ G1 H1 u r=>⟨G1,items,u,st.up u,r,h⟩
  |ex C=>rw[e]at h;exact h
  |no=>rw[e]at h;exact h
 refine thn (hi pins s σ H _ I t) λv s1 h1=>thn h1 λitv s2 h2=>?_;obtain⟨it,fp,tn,J,H2,e,I2,T,st2,f2,G2,items,u2,sE2,iok,h2⟩:=h2;subst e;have h2':=
  h2.mono (λds q l vs G' H' u hl r=>q l vs G' H' (u2.trans u) hl r) λC q=>q.up u2;refine xB ok hcalm he ht I2 T st2 f2 sE2 iok h2' ?_;intro Dd C s' m vs G' H' up hd hCD _ q hm hos hb hC hCl un hok;refine⟨m,hm,λh' hs'=>?_⟩;have I3:=I2.call' (s':={ s' with heap:=h' }) hos (un.sameBut (λb o hbc e=>hs'.extBut b o hbc e) hCl) (hok.sameBut (λb o hbc e=>hs'.extBut b o hbc e) (by rw[aw hCD];exact hC)) hb λb hb'=>by
  obtain⟨f0,f1,f2',f3,f4,f5⟩:=f2 b hb';exact⟨f3,f1,f4,f5⟩
 exact⟨.ref Dd,_,I3,rfl,q⟩
end
inductive O where
 |nx (ρ:Ev)|rt (d:D)|re (d:D) (ρ:Ev)|bk (ρ:Ev)|ct (ρ:Ev)|ex (C:Addr) (ρ:Ev)|no
noncomputable def FlyS(X:Cx)(G₀ H₀:Hp)(ρ:Ev)(C:Addr)(e:Value)(s':Shared):Prop:=∃σ H₁ pins s₁ a,e=.ref a/\Inv X pins σ H₁ s₁/\
 ((∃G₁ h' vs,StR X.K G₀ H₀ G₁ H₁ σ ρ/\Heap.MadeExcOf s₁.heap h' a (.ref C) vs/\s'={ s₁ with heap:=h' })\/(∃G' H',Fz X.prog X.w X.stack H₁ s₁ a C H' s'/\StR X.K G₀ H₀ G' H' σ ρ)\/
  ∃G' H' L,X.env.frame=some L/\DG X pins L H₁ s₁ a C H' s'/\StR X.K G₀ H₀ G' H' σ ρ)
def FlyS.of{H₀ G₁ H₁:Hp}{e:Value}(sr:StR X.K G₀ H₀ G₁ H₁ σ ρ)(f:MW X σ G₁ H₁ C e s'):FlyS X G₀ H₀ ρ C e s':=by
 obtain⟨pins,s₁,a,e,I,way⟩:=f;refine⟨σ,H₁,pins,s₁,a,e,I,?_⟩;rcases way with⟨h',vs,m,z⟩|⟨G',H',fl,u⟩|⟨G',H',L,hL,fl,u⟩;·exact .inl ⟨G₁,h',vs,sr,m,z⟩
 ·exact .inr (.inl ⟨G',H',fl,sr.ups u⟩)
 ·exact .inr (.inr ⟨G',H',L,hL,fl,sr.ups u⟩)
def FlyS.map{A B A' B':Hp}{ρ':Ev}{e:Value}(f:FlyS X A B ρ C e s')(h:∀σ G H,StR X.K A B G H σ ρ->StR X.K A' B' G H σ ρ'):FlyS X A' B' ρ' C e s':=by
 obtain⟨σ,H₁,pins,s₁,a,e,I,way⟩:=f;refine⟨σ,H₁,pins,s₁,a,e,I,?_⟩;rcases way with⟨G₁,h',vs,sr,m,z⟩|⟨G',H',fl,sr⟩|⟨G',H',L,hL,fl,sr⟩;·exact .inl ⟨G₁,h',vs,h _ _ _ sr,m,z⟩
 ·exact .inr (.inl ⟨G',H',fl,h _ _ _ sr⟩)
 ·exact .inr (.inr ⟨G',H',L,hL,fl,h _ _ _ sr⟩)
noncomputable def jM(X:Cx)(G₀ H₀:Hp)(D:Ends)(o:O):Prop:=match o with
 |.nx ρ=>∀σ G H,StR X.K G₀ H₀ G H σ ρ->D.nx σ H
 |.rt d=>∀v G H,Up G₀ H₀ G H->Rep X.K G v d->D.rt v H
 |.re d ρ=>∀v σ G H,StR X.K G₀ H₀ G H σ ρ->Rep X.K G v d->D.rt v H
 |.bk ρ=>∀σ G H,StR X.K G₀ H₀ G H σ ρ->D.bk σ H
 |.ct ρ=>∀σ G H,StR X.K G₀ H₀ G H σ ρ->D.ct σ H
 |.ex C ρ=>∀e s',FlyS X G₀ H₀ ρ C e s'->X.xe e s'
 |.no=>False
noncomputable def tS(X:Cx)(G₀ H₀:Hp)(g:Ev->O):TS:=λD σ H=>∃G ρ,StR X.K G₀ H₀ G H σ ρ/\jM X G₀ H₀ D (g ρ)
noncomputable def PSF(X:Cx)(st:Stmt)(g:Ev->O):Prop:=∀G₀ H₀,PS X st (tS X G₀ H₀ g)
noncomputable def lV(X:Cx)(st:List Stmt)(g:Ev->O):Prop:=∀G₀ H₀,PSs X st (tS X G₀ H₀ g)
noncomputable def R.out{α:Type}(m:R α)(ρ:Ev)(k:α->O):O:=match m with
 |.ok a=>k a
 |.ex C=>.ex C ρ
 |.no=>.no
noncomputable def O.seq(o:O)(k:Ev->O):O:=match o with
 |.nx ρ=>k ρ
 |o=>o
section
variable{cT body a b:List Stmt}{e c tg:Expr}{g g1 g2:Ev->O}{ga:Ev->R D}{gt:Ev->R Bool}
def Exx.of{H₀:Hp}{D:Ends}(sr:StR X.K G₀ H₀ G H σ ρ)(h:jM X G₀ H₀ D (.ex C ρ)):Exx X σ G H C:=λe s' ⟨G1,H1,u,f⟩=>h e s' (.of (sr.ups u) f)
def Ah:lV X [] (λρ=>.nx ρ):=λG₀ H₀ pins s σ H D I h=>by obtain⟨G,ρ,sr,h⟩:=h;exact GH pins s σ H D I (h σ G H sr)
def xu(h1:PSF X st g1)(h2:lV X cT g2):lV X (st::cT) (λρ=>(g1 ρ).seq g2):=λG₀ H₀ pins s σ H D I h=>by
 refine iW (h1 G₀ H₀) (h2 G₀ H₀) pins s σ H D I ?_;obtain⟨G,ρ,sr,h⟩:=h
 try dsimp only at h
 refine⟨G,ρ,sr,?_⟩;cases q:g1 ρ with
 |nx ρ'=>rw[q]at h;exact λσ' G' H' sr'=>⟨G',ρ',sr',h⟩
 |rt d=>rw[q]at h;exact h
 |re d ρ'=>rw[q]at h;exact h
 |bk ρ'=>rw[q]at h;exact h
 |ct ρ'=>rw[q]at h;exact h
 |ex C ρ'=>rw[q]at h;exact h
 |no=>rw[q]at h;exact h
def Bn(he:PF X e ga):PSF X (.Return (some e) pos) (λρ=>(ga ρ).out ρ .rt):=λG₀ H₀ pins s σ H D I h=>by
 refine Ax he pins s σ H D I ?_;obtain⟨G,ρ,sr,h⟩:=h
 try dsimp only at h
 refine⟨G,ρ,sr.e,?_⟩;cases q:ga ρ with
 |ok d=>rw[q]at h;exact λv G' H' u r=>h v G' H' (sr.up.trans u) r
 |ex C=>rw[q]at h;exact Exx.of sr h
 |no=>rw[q]at h;exact h
def zF(he:PF X e ga)(hs:swapsWith e none pos.line X.env=pure false:=by rfl):PSF X (.Expr e pos) (λρ=>(ga ρ).out ρ λ_=>.nx ρ):=λG₀ H₀ pins s σ H D I h=>by
 refine jx he hs pins s σ H D I ?_;obtain⟨G,ρ,sr,h⟩:=h
 try dsimp only at h
 refine⟨G,ρ,sr.e,?_⟩;cases q:ga ρ with
 |ok d=>rw[q]at h;exact λv G' H' u r=>h σ G' H' (sr.ups u)
 |ex C=>rw[q]at h;exact Exx.of sr h
 |no=>rw[q]at h;exact h
def Gx(hc:PB X c gt)(ha:lV X a g1)(hb:lV X b g2):PSF X (.If c a b pos) (λρ=>(gt ρ).out ρ λk=>if k=true then g1 ρ else g2 ρ):=λG₀ H₀ pins s σ H D I h=>by
 refine Ft hc (ha G₀ H₀) (hb G₀ H₀) pins s σ H D I ?_;obtain⟨G,ρ,sr,h⟩:=h
 try dsimp only at h
 refine⟨G,ρ,sr.e,?_⟩;cases q:gt ρ with
 |ok k=>
  rw[q]at h;intro b' G' H' u r;subst r;cases b' with
  |true=>rw[if_pos rfl];exact⟨G',ρ,sr.ups u,by simpa[R.out]using h⟩
  |false=>rw[if_neg Bool.false_ne_true];exact⟨G',ρ,sr.ups u,by simpa[R.out]using h⟩
 |ex C=>rw[q]at h;exact Exx.of sr h
 |no=>rw[q]at h;exact h
def Dn(he:PF X e ga)(hg:PGF X tg asg)(hs:swapsWithSole [tg] e pos.line X.env=pure false:=by rfl)(hw:swappedStores [tg] e X.env=pure none:=by rfl)(hn:∀d ρ C,asg d ρ≠.ex C:=by intro _ _ _ z;cases z)(h1:(assignEach [tg] X.env).map (·.2)=[assign tg X.env]:=by rfl):PSF X (.Assign [tg] e pos) (λρ=>(ga ρ).out ρ λd=>(asg d ρ).out ρ .nx):=λG₀ H₀ pins s σ H D I h=>by
 refine kU he hg hs hw h1 pins s σ H D I ?_;obtain⟨G,ρ,sr,h⟩:=h
 try dsimp only at h
 refine⟨G,ρ,sr.e,?_⟩;cases q:ga ρ with
 |ok d=>
  rw[q]at h;simp only[R.out]at h;intro v G' H' u r;cases q2:asg d ρ with
  |ok ρ'=>rw[q2]at h;exact⟨G₀,H₀,G',ρ,d,ρ',sr.ups u,r,q2,λσ' sr'=>h σ' G' H' sr'⟩
  |ex C=>exact absurd q2 (hn d ρ C)
  |no=>rw[q2]at h;exact h.elim
 |ex C=>rw[q]at h;exact Exx.of sr h
 |no=>rw[q]at h;exact h
def Dt(i:Nat){p:Pos}(hN:X.N.Nodup)(he:PF X e ga)(hi:X.N[i]?=some x:=by rfl)(hx:Loc X.env.scope x:=by first|exact Or.inl rfl|exact Or.inr rfl)(hs:swapsWithSole [.Name x p] e pos.line X.env=pure false:=by rfl)(hw:swappedStores [.Name x p] e X.env=pure none:=by rfl)(hf:X.fn x=true\/X.env.scope.names.lookup x=some .local:=by first|exact .inl rfl|exact .inr rfl):
  PSF X (.Assign [.Name x p] e pos) (λρ=>(ga ρ).out ρ λd=>.nx (ρ.set i (some (.val d)))):=Dn he (di i hN hi hx hf) hs hw
def StR.setOwn{K:PySem.W.Frag}{H₀:Hp}(s:StR K G₀ H₀ G H σ ρ){l:Addr}(hl:H l=none)(r:Reps K G vs ds)(i:Nat):
  StR K G₀ H₀ G (upd H l (.lst vs)) (σ.set i (some (.ref l))) (ρ.set i (some (.own ds))):=by
 have gl:=s.e.sub.free hl;have sub:Same G (upd H l (.lst vs)):=λa o e=>by rw[aw (aD e gl)];exact s.e.sub a o e
 have get:∀(j:Nat) x,(ρ.set i (some (.own ds)))[j]?=some (some x)->(j=i/\x=.own ds/\i<σ.length)\/(j≠i/\ρ[j]?=some (some x)/\(σ.set i (some (.ref l)))[j]?=σ[j]?):=λj x h=>by
  by_cases e:i=j
  ·subst e;have hl:i<ρ.length:=by have:=(List.getElem?_eq_some_iff.mp h).1;simpa using this
   rw[List.getElem?_set_self hl]at h;exact .inl ⟨rfl,by injection (Option.some.inj h)with q;exact q.symm,by rw[s.e.len];exact hl⟩
  ·rw[List.getElem?_set_ne e]at h;exact .inr ⟨λz=>e z.symm,h,List.getElem?_set_ne e⟩
 have ob:ObSt K H₀ G (upd H l (.lst vs)) (σ.set i (some (.ref l))) (ρ.set i (some (.own ds))):=by
  obtain⟨ow,o1,o2⟩:=s.ob;have nl:∀{a:Addr}{o:HO},H a=some o->a≠l:=λe z=>by rw[z,hl]at e;cases e
  refine⟨λa=>if a=l then some (i,0)else ow a,λj es l' h1 h2=>?_,λj m C p fs h1=>?_⟩
  ·rcases get j _ h1 with⟨rfl,e,hj⟩|⟨_,e,e'⟩;·rw[List.getElem?_set_self hj]at h2;cases h2;exact if_pos rfl
   ·rw[e']at h2;obtain⟨l2,vs2,q1,q2,_⟩:=s.own j es e;rw[h2]at q1;cases q1;exact(if_neg (nl q2)).trans (o1 j es l' e h2)
  ·rcases get j _ h1 with⟨_,e,_⟩|⟨_,e,e'⟩;·cases e
   ·rw[e'];refine⟨(o2 j m C p fs e).1,(o2 j m C p fs e).2.keep ⟨λa t o _ q=>?_,.refl _,λa t o _ _ n=>n,λa t o q1 q2=>?_,λa o _ _ n=>n⟩⟩;·rw[aw (nl q)];exact q
    ·exact(if_neg (nl q2)).trans q1
 refine⟨⟨sub,by simp[s.e.len],λj d' h=>?_,ob.rd⟩,s.sub0,⟨sub,s.up.gg,λa o e=>?_,s.up.fr⟩,λj es h=>?_,λj k es fs l' h1 h2 h3 h4=>?_,ob⟩
 ·rcases get j _ h with⟨_,e,_⟩|⟨_,e,e'⟩;·cases e
  ·rw[e'];exact s.e.val j d' e
 ·rw[aw (aD (s.up.hh a o e) hl)];exact s.up.hh a o e
 ·rcases get j _ h with⟨rfl,e,hj⟩|⟨_,e,e'⟩;·cases e;exact⟨l,vs,List.getElem?_set_self hj,aF,gl,s.up.hh.free hl,r⟩
  ·obtain⟨l',vs',h1,h2,h3,h4,h5⟩:=s.own j es e;exact⟨l',vs',by rw[e'];exact h1,by rw[aw (aD h2 hl)];exact h2,h3,h4,h5⟩
 ·rcases get j _ h1 with⟨rfl,e,hj⟩|⟨nj,e,e'⟩
  ·rcases get k _ h2 with⟨rfl,f,_⟩|⟨nk,f,f'⟩;·rfl
   ·obtain⟨l2,vs2,q1,q2,_⟩:=s.own k fs f;rw[List.getElem?_set_self hj]at h3;rw[f',q1]at h4;cases h3;cases h4;rw[hl]at q2;cases q2
  ·rcases get k _ h2 with⟨rfl,f,hk⟩|⟨nk,f,f'⟩;·obtain⟨l2,vs2,q1,q2,_⟩:=s.own j es e;rw[List.getElem?_set_self hk]at h4;rw[e',q1]at h3;cases h3;cases h4;rw[hl]at q2;cases q2
   ·exact s.inj j k es fs l' e f (e'▸h3) (f'▸h4)
def B8(i:Nat){p:Pos}(hN:X.N.Nodup)(he:PFL X e gl)(hi:X.N[i]?=some x:=by rfl)(hx:Loc X.env.scope x:=by first|exact Or.inl rfl|exact Or.inr rfl)(hs:swapsWithSole [.Name x p] e pos.line X.env=pure false:=by rfl)(hw:swappedStores [.Name x p] e X.env=pure none:=by rfl)(hf:X.fn x=true\/X.env.scope.names.lookup x=some .local:=by first|exact .inl rfl|exact .inr rfl):
  PSF X (.Assign [.Name x p] e pos) (λρ=>(gl ρ).out ρ λds=>.nx (ρ.set i (some (.own ds)))):=λG₀ H₀ pins s σ H D I h=>by
 refine kU he (jn hN hi hx hf) hs hw rfl pins s σ H D I ?_;obtain⟨G,ρ,sr,h⟩:=h
 try dsimp only at h
 refine⟨G,ρ,sr.e,?_⟩;cases q:gl ρ with
 |ok ds=>rw[q]at h;exact λl vs G' H' u hl r=>h _ G' _ ((sr.ups u).setOwn hl r i)
 |ex C=>rw[q]at h;exact Exx.of sr h
 |no=>rw[q]at h;exact h
def StR.mut{K:PySem.W.Frag}{H₀:Hp}(s:StR K G₀ H₀ G H σ ρ){l:Addr}{es:List D}(e:ρ[i]?=some (some (.own ds)))(hs:σ[i]?=some (some (.ref l)))(r:Reps K G vs es):
  StR K G₀ H₀ G (upd H l (.lst vs)) σ (ρ.set i (some (.own es))):=by
 obtain⟨l0,vs0,h1,h2,h3,h4,h5⟩:=s.own i ds e;rw[hs]at h1;cases h1;have sub:Same G (upd H l (.lst vs)):=λa o e=>by rw[aw (aD e h3)];exact s.e.sub a o e
 have hl:=(List.getElem?_eq_some_iff.mp e).1;have get:∀(j:Nat) x,(ρ.set i (some (.own es)))[j]?=some (some x)->(j=i/\x=.own es)\/(j≠i/\ρ[j]?=some (some x)):=λj x h=>by
  by_cases e:i=j;·subst e;rw[List.getElem?_set_self hl]at h;exact .inl ⟨rfl,by injection (Option.some.inj h)with q;exact q.symm⟩
  ·rw[List.getElem?_set_ne e]at h;exact .inr ⟨λz=>e z.symm,h⟩
 have ob:ObSt K H₀ G (upd H l (.lst vs)) σ (ρ.set i (some (.own es))):=by
  obtain⟨ow,o1,o2⟩:=s.ob;have ol:=o1 i ds l e hs;refine⟨ow,λj fs l' q1 q2=>?_,λj m C p fs q1=>?_⟩
  ·rcases get j _ q1 with⟨rfl,_⟩|⟨nj,f1⟩;·exact o1 j ds l' e q2
   ·exact o1 j fs l' f1 q2
  ·rcases get j _ q1 with⟨_,e'⟩|⟨nj,f1⟩;·cases e'
   ·have ne:∀a t,ow a=some (j,t)->a≠l:=λa t q z=>by rw[z,ol]at q;cases q;exact nj rfl
    refine⟨(o2 j m C p fs f1).1,(o2 j m C p fs f1).2.keep ⟨λa t o q1 q=>?_,.refl _,λa t o _ _ n=>n,λa t o q1 _=>q1,λa o _ _ n=>n⟩⟩;·rw[aw (ne a t q1)];exact q
 refine⟨⟨sub,by simp[s.e.len],λj d' h=>?_,ob.rd⟩,s.sub0,⟨sub,s.up.gg,λa o e=>?_,s.up.fr⟩,λj fs h=>?_,λj k fs gs l' q1 q2 q3 q4=>?_,ob⟩
 ·rcases get j _ h with⟨_,e⟩|⟨_,e⟩;·cases e
  ·exact s.e.val j d' e
 ·rw[aw (aD e h4)];exact s.up.hh a o e
 ·rcases get j _ h with⟨rfl,e'⟩|⟨nj,e'⟩;·cases e';exact⟨l,vs,hs,aF,h3,h4,r⟩
  ·obtain⟨l',vs',p1,p2,p3,p4,p5⟩:=s.own j fs e';have:l'≠l:=λz=>by subst z;exact nj (s.inj j i fs ds l' e' e p1 hs)
   exact⟨l',vs',p1,by rw[aw this];exact p2,p3,p4,p5⟩
 ·rcases get j _ q1 with⟨rfl,_⟩|⟨nj,f1⟩
  ·rcases get k _ q2 with⟨rfl,_⟩|⟨nk,f2⟩;·rfl
   ·exact s.inj j k ds gs l' e f2 q3 q4
  ·rcases get k _ q2 with⟨rfl,_⟩|⟨nk,f2⟩;·exact s.inj j k fs ds l' f1 e q3 q4
   ·exact s.inj j k fs gs l' f1 f2 q3 q4
noncomputable def frz(i:Nat)(ρ:Ev):Ev:=match ρ[i]? with
 |some (some (.own ds))=>ρ.set i (some (.val (.lst false ds)))
 |_=>ρ
def StR.frzTo{K:PySem.W.Frag}{H₀:Hp}(s:StR K G₀ H₀ G H σ ρ)(i:Nat):∃G',StR K G₀ H₀ G' H σ (L2.frz i ρ)/\(G'=G\/∃l vs,G l=none/\G'=upd G l (.lst vs)):=by
 unfold L2.frz;split
 ·rename_i ds e;obtain⟨l,vs,h1,h2,h3,h4,h5⟩:=s.own i ds e;have hl:=(List.getElem?_eq_some_iff.mp e).1;have into:Same G (upd G l (.lst vs)):=.into h3;have sub:Same (upd G l (.lst vs)) H:=λa o q=>by
   by_cases ea:a=l;·subst ea;rw[aF]at q;rw[<- q];exact h2
   ·rw[aw ea]at q;exact s.e.sub a o q
  have get:∀(j:Nat) x,(ρ.set i (some (.val (.lst false ds))))[j]?=some (some x)->(j=i/\x=.val (.lst false ds))\/(j≠i/\ρ[j]?=some (some x)):=λj x h=>by
   by_cases e:i=j;·subst e;rw[List.getElem?_set_self hl]at h;exact .inl ⟨rfl,by injection (Option.some.inj h)with q;exact q.symm⟩
   ·rw[List.getElem?_set_ne e]at h;exact .inr ⟨λz=>e z.symm,h⟩
  have ob:ObSt K H₀ (upd G l (.lst vs)) H σ (ρ.set i (some (.val (.lst false ds)))):=by
   obtain⟨ow,o1,o2⟩:=s.ob;have ol:=o1 i ds l e h1;refine⟨ow,λj fs l' q1 q2=>?_,λj m C p fs q1=>?_⟩
   ·rcases get j _ q1 with⟨_,e'⟩|⟨nj,f1⟩;·cases e'
    ·exact o1 j fs l' f1 q2
   ·rcases get j _ q1 with⟨_,e'⟩|⟨nj,f1⟩;·cases e'
    ·have ne:∀a t,ow a=some (j,t)->a≠l:=λa t q z=>by rw[z,ol]at q;cases q;exact nj rfl
     refine⟨(o2 j m C p fs f1).1,(o2 j m C p fs f1).2.keep ⟨λa t o _ q=>q,into,λa t o q1 _ n=>?_,λa t o q1 _=>q1,λa o _ _ n=>n⟩⟩;·rw[aw (ne a t q1)];exact n
  refine⟨upd G l (.lst vs),⟨⟨sub,by simp[s.e.len],λj d' h=>?_,ob.rd⟩,s.sub0,⟨sub,s.up.gg.trans into,s.up.hh,λa o q=>?_⟩,λj fs h=>?_,λj k fs gs l' q1 q2 q3 q4=>?_,ob⟩,.inr ⟨l,vs,h3,rfl⟩⟩
  ·rcases get j _ h with⟨rfl,e'⟩|⟨_,e'⟩;·cases e';exact⟨.ref l,h1,.lst aF (h5.mono into)⟩
   ·obtain⟨v,p1,p2⟩:=s.e.val j d' e';exact⟨v,p1,p2.mono into⟩
  ·by_cases ea:a=l;·subst ea;exact .inr h4
   ·rw[aw ea]at q;exact s.up.fr a o q
  ·rcases get j _ h with⟨_,e'⟩|⟨nj,e'⟩;·cases e'
   ·obtain⟨l',vs',p1,p2,p3,p4,p5⟩:=s.own j fs e';have:l'≠l:=λz=>by subst z;exact nj (s.inj j i fs ds l' e' e p1 h1)
    exact⟨l',vs',p1,p2,by rw[aw this];exact p3,p4,p5.mono into⟩
  ·rcases get j _ q1 with⟨_,e'⟩|⟨nj,f1⟩;·cases e'
   ·rcases get k _ q2 with⟨_,e'⟩|⟨nk,f2⟩;·cases e'
    ·exact s.inj j k fs gs l' f1 f2 q3 q4
 ·exact⟨G,s,.inl rfl⟩
def StR.frz{K:PySem.W.Frag}{H₀:Hp}(s:StR K G₀ H₀ G H σ ρ)(i:Nat):∃G',StR K G₀ H₀ G' H σ (L2.frz i ρ):=
 let⟨G',h,_⟩:=s.frzTo i;⟨G',h⟩
def yI{sts:List Stmt}(i:Nat)(h:lV X sts g):lV X sts (λρ=>g (frz i ρ)):=λG₀ H₀ pins s σ H D I q=>by obtain⟨G,ρ,sr,q⟩:=q;obtain⟨G',sr'⟩:=sr.frz i;exact h G₀ H₀ pins s σ H D I ⟨G',_,sr',q⟩
noncomputable def ownAt(ρ:Ev)(i:Nat):R (List D):=match ρ[i]? with
 |some (some (.own ds))=>.ok ds
 |_=>.no
def ownAt.ok{k:List D->O}{D:Ends}{H₀:Hp}(h:jM X G₀ H₀ D ((ownAt ρ i).out ρ k)):∃ds,ρ[i]?=some (some (.own ds))/\jM X G₀ H₀ D (k ds):=by
 unfold ownAt at h;split at h;·rename_i ds e;exact⟨ds,e,h⟩
 ·exact h.elim
def uq(i:Nat){p ap cp:Pos}(he:PF X e ga)(hi:X.N[i]?=some x:=by rfl)(hv:Vis X.env.scope x:=by first|exact Or.inl rfl|exact Or.inr (Or.inl rfl))(hd:(x==("__debug__":Str))=false:=by decide)(hcd:(x==("__classdict__":Str))=false:=by decide)(hs1:starEach [e] X.env=(false,eval e X.env)::starEach [] X.env:=by rfl)(hbase:attributeBase (.Name x p) "append" X.env (eval (.Name x p) X.env)=eval (.Name x p) X.env:=by rfl)(hfew:((backTo cp (starEach [e] X.env)).all (λx=>!x.1) && (backToKw cp (keywordEach [] X.env)).all (λx=>x.1.isSome)
 && decide ([e].length+([]:List Keyword).length+(if ([]:List Keyword).isEmpty then 0 else 1)<30))=true:=by rfl)(hline:(ap.endLine==cp.line)=true:=by rfl)(hs:swapsWith (.Call (.Attribute (.Name x p) "append" ap) [e] [] cp) none pos.line X.env=pure false:=by rfl):
  PSF X (.Expr (.Call (.Attribute (.Name x p) "append" ap) [e] [] cp) pos) (λρ=>(ownAt ρ i).out ρ λds=>(ga ρ).out ρ λd=>if ds.length<sizeLine then .nx (ρ.set i (some (.own (ds++[d]))))else .no):=λG₀ H₀ pins s σ H D I h=>by
 refine jx (Ba PySem.F.plainAttrs_list PySem.F.slot_list_append PySem.F.type_list_append mw (dA hi hv hd hcd) (cW he jj hs1) hbase hfew hline hs1 rfl) hs pins s σ H D I ?_;obtain⟨G,ρ,sr,h⟩:=h;obtain⟨ds,e1,h⟩:=ownAt.ok h;obtain⟨l,vs,h1,h2,h3,h4,h5⟩:=sr.own i ds e1;refine⟨.ref l,h1,.inl ⟨rfl,vs,.of h2⟩,G,ρ,sr.e,?_⟩;cases q:ga ρ with
 |ok d=>
  rw[q]at h;simp only[R.out]at h;intro v G' H' u r;by_cases hz:ds.length<sizeLine;·rw[if_pos hz]at h;refine⟨l,vs,v,rfl,rfl,u.hh _ _ h2,by rw[h5.length];exact hz,h _ G' _ ?_⟩;exact(sr.ups u).mut e1 h1 ((h5.mono u.gg).append (.cons r .nil))
  ·rw[if_neg hz]at h;exact h.elim
 |ex C=>rw[q]at h;exact Exx.of sr h
 |no=>rw[q]at h;exact h
noncomputable def asL:D->R (List D)
 |.lst false xs=>.ok xs
 |_=>.no
def vk(i:Nat){p ap cp:Pos}(he:PF X e ga)(hi:X.N[i]?=some x:=by rfl)(hv:Vis X.env.scope x:=by first|exact Or.inl rfl|exact Or.inr (Or.inl rfl))(hd:(x==("__debug__":Str))=false:=by decide)(hcd:(x==("__classdict__":Str))=false:=by decide)(hs1:starEach [e] X.env=(false,eval e X.env)::starEach [] X.env:=by rfl)(hbase:attributeBase (.Name x p) "extend" X.env (eval (.Name x p) X.env)=eval (.Name x p) X.env:=by rfl)(hfew:((backTo cp (starEach [e] X.env)).all (λx=>!x.1) && (backToKw cp (keywordEach [] X.env)).all (λx=>x.1.isSome)
 && decide ([e].length+([]:List Keyword).length+(if ([]:List Keyword).isEmpty then 0 else 1)<30))=true:=by rfl)(hline:(ap.endLine==cp.line)=true:=by rfl)(hs:swapsWith (.Call (.Attribute (.Name x p) "extend" ap) [e] [] cp) none pos.line X.env=pure false:=by rfl):
  PSF X (.Expr (.Call (.Attribute (.Name x p) "extend" ap) [e] [] cp) pos) (λρ=>(ownAt ρ i).out ρ λds=>(ga ρ).out ρ λd=>(asL d).out ρ λes=>if ds.length+es.length<=sizeLine then .nx (ρ.set i (some (.own (ds++es))))else .no):=λG₀ H₀ pins s σ H D I h=>by
 refine jx (Ba PySem.F.plainAttrs_list PySem.F.slot_list_extend PySem.F.type_list_extend zW (dA hi hv hd hcd) (cW he jj hs1) hbase hfew hline hs1 rfl) hs pins s σ H D I ?_;obtain⟨G,ρ,sr,h⟩:=h;obtain⟨ds,e1,h⟩:=ownAt.ok h;obtain⟨l,vs,h1,h2,h3,h4,h5⟩:=sr.own i ds e1;refine⟨.ref l,h1,.inl ⟨rfl,vs,.of h2⟩,G,ρ,sr.e,?_⟩;cases q:ga ρ with
 |ok d=>
  rw[q]at h;intro v G' H' u r;cases r with
  |lst hb t=>
   rename_i b ws es;have h:jM X G₀ H₀ D (if ds.length+es.length<=sizeLine then .nx (ρ.set i (some (.own (ds++es))))else .no):=h;by_cases hz:ds.length+es.length<=sizeLine;·rw[if_pos hz]at h;refine⟨l,b,vs,ws,rfl,rfl,u.hh _ _ h2,u.sub _ _ hb,by rw[h5.length,t.length];exact hz,h _ G' _ ?_⟩;exact(sr.ups u).mut e1 h1 ((h5.mono u.gg).append t)
   ·rw[if_neg hz]at h;exact h.elim
  |_=>exact h.elim
 |ex C=>rw[q]at h;exact Exx.of sr h
 |no=>rw[q]at h;exact h
noncomputable def cg(asg:D->Ev->R Ev)(g:Ev->O):List D->Ev->O
 | [],ρ=>.nx ρ
 |d::ds,ρ=>(asg d ρ).out ρ λρ1=>match g ρ1 with
  |.nx ρ2=>cg asg g ds ρ2
  |.ct ρ2=>cg asg g ds ρ2
  |.bk ρ2=>.nx ρ2
  |.rt d=>.rt d
  |.re d ρ2=>.re d ρ2
  |.ex C ρ2=>.ex C ρ2
  |.no=>.no
noncomputable def mix(H₀ G₁:Hp):Hp:=λa=>match G₁ a with
 |some o=>some o
 |none=>H₀ a
def qd{H₀ G₁:Hp}{a:Addr}(h:mix H₀ G₁ a=none):G₁ a=none/\H₀ a=none:=by
 unfold mix at h;cases q:G₁ a with
 |none=>rw[q]at h;exact⟨rfl,h⟩
 |some o=>rw[q]at h;cases h
section
variable{K:PySem.W.Frag}{H₀ G₁ H₁:Hp}
def StR.to(s:StR K G₀ H₀ G₁ H₁ σ ρ):StR K G₁ (mix H₀ G₁) G₁ H₁ σ ρ:=by
 refine⟨s.e,λa o e=>?_,⟨s.e.sub,.refl _,λa o e=>?_,λ_ _ e=>.inl e⟩,λi ds e=>?_,s.inj,?_⟩;·unfold mix;rw[e]
 ·unfold mix at e;cases q:G₁ a with
  |none=>rw[q]at e;exact s.up.hh a o e
  |some o'=>rw[q]at e;cases e;exact s.e.sub a o q
 ·obtain⟨l,vs,h1,h2,h3,h4,h5⟩:=s.own i ds e;exact⟨l,vs,h1,h2,h3,by unfold mix;rw[h3];exact h4,h5⟩
 ·obtain⟨ow,o1,o2⟩:=s.ob;exact⟨ow,o1,λi m C p fs e=>⟨(o2 i m C p fs e).1,(o2 i m C p fs e).2.keep ⟨λa t o _ q=>q,.refl _,λa t o _ _ n=>n,λa t o q1 _=>q1,λa o _ g n=>by unfold mix;rw[g];exact n⟩⟩⟩
def Up.back(u:Up G₀ H₀ G₁ H₁)(v:Up G₁ (mix H₀ G₁) G H):Up G₀ H₀ G H:=by
 refine⟨v.sub,u.gg.trans v.gg,λa o e=>?_,λa o e=>?_⟩
 ·cases q:G₁ a with
  |none=>exact v.hh a o (by unfold mix;rw[q];exact e)
  |some o'=>have h1:=u.sub a o' q;have h2:=u.hh a o e;rw[h1]at h2;cases h2;exact v.hh a o (by unfold mix;rw[q])
 ·rcases v.fr a o e with h|h;·exact u.fr a o h
  ·exact .inr (qd h).2
def StR.back(s0:Same G₀ H₀)(u:Up G₀ H₀ G₁ H₁)(s:StR K G₁ (mix H₀ G₁) G H σ ρ):StR K G₀ H₀ G H σ ρ:=
 ⟨s.e,s0,u.back s.up,λi ds e=>let⟨l,vs,h1,h2,h3,h4,h5⟩:=s.own i ds e;⟨l,vs,h1,h2,h3,(qd h4).2,h5⟩,s.inj,by
 obtain⟨ow,o1,o2⟩:=s.ob;exact⟨ow,o1,λi m C p fs e=>⟨(o2 i m C p fs e).1,(o2 i m C p fs e).2.keep ⟨λa t o _ q=>q,.refl _,λa t o _ _ n=>n,λa t o q1 _=>q1,λa o _ _ n=>(qd n).2⟩⟩⟩⟩
end
def Bl(hp:PassesOwn (model X.prog X.w) X.A X.env X.xe)(hcalm:X.calm=true)(hi:PIF X tg iter gi)(hg:PGF X tg asg)(hb:lV X body g)(hs:∀x,foldedSetIterable iter X.env x=pure x:=by intro _;rfl)(hn:∀d ρ C,asg d ρ≠.ex C:=by intro _ _ _ z;cases z):PSF X (.For tg iter body [] pos) (λρ=>(gi ρ).out ρ λitems=>cg asg g items ρ):=λG₀ H₀ pins s σ H D I h=>by
 obtain⟨G,ρ,sr,h⟩:=h
 try dsimp only at h
 cases q:gi ρ with
 |ok items=>
  rw[q]at h;simp only[R.out]at h;have key:∀(J:It)(G1 H1:Hp),Up G H G1 H1->ItOk X.K G1 J items->∃W:Nat->Nat->St->Hp->Prop,(∃m,W 0 m σ H1)/\∀i m σ H,W i m σ H->
    (J.stop i H/\D.nx σ H)\/(J.go i H/\∃N:St->Hp->Prop,(∀σ' H',N σ' H'->∃m',m'<m/\W (i+1) m' σ' H')/\∀x H',J.yld i H x H'->(λv σ H Q=>∃G₀ H₀ G ρ d ρ',StR X.K G₀ H₀ G H σ ρ/\Rep X.K G v d/\asg d ρ=.ok ρ'/\∀σ',StR X.K G₀ H₀ G H σ' ρ'->Q σ' H) x σ H' λσ2 H2=>(λD σ H=>∃G₀ H₀,tS X G₀ H₀ g D σ H) { D with nx:=N,ct:=N,bk:=D.nx } σ2 H2):=by
   intro J G1 H1 u1 iok;have sr1:=sr.ups u1;refine⟨λi m σ' H'=>m=items.length - i/\i<=items.length/\∃G' ρ',StR X.K G1 (mix H₀ G1) G' H' σ' ρ'/\jM X G₀ H₀ D (cg asg g (items.drop i) ρ'),⟨items.length,by simp,Nat.zero_le _,G1,ρ,sr1.to,by simpa using h⟩,?_⟩;rintro i m σ' H' ⟨rfl,hil,G',ρ',sr',h'⟩;have hIt:=iok i G' H' sr'.up.gg sr'.e.sub;by_cases hlt:i<items.length
   ·have hd:=List.drop_eq_getElem_cons hlt;rw[hd]at h';obtain⟨go,yl⟩:=hIt.1 items[i] (by simp[hlt]);refine .inr ⟨go,λσ2 H2=>i+1<=items.length/\∃G2 ρ2,StR X.K G1 (mix H₀ G1) G2 H2 σ2 ρ2/\jM X G₀ H₀ D (cg asg g (items.drop (i+1)) ρ2),λσ2 H2 q2=>⟨items.length - (i+1),by omega,rfl,q2⟩,λx H2 y=>?_⟩;obtain⟨G2,up2,rep2⟩:=yl x H2 y;unfold cg at h';cases q2:asg items[i] ρ' with
    |ok ρ1=>
     rw[q2]at h';simp only[R.out]at h';refine⟨G1,mix H₀ G1,G2,ρ',items[i],ρ1,sr'.ups up2,rep2,q2,λσ3 sr3=>⟨G1,mix H₀ G1,G2,ρ1,sr3,?_⟩⟩;cases q3:g ρ1 with
     |nx ρ2=>rw[q3]at h';exact λσ4 G4 H4 sr4=>⟨hlt,G4,ρ2,sr4,h'⟩
     |ct ρ2=>rw[q3]at h';exact λσ4 G4 H4 sr4=>⟨hlt,G4,ρ2,sr4,h'⟩
     |bk ρ2=>rw[q3]at h';exact λσ4 G4 H4 sr4=>h' σ4 G4 H4 (sr4.back sr.sub0 sr1.up)
     |rt d=>rw[q3]at h';exact λv G4 H4 u4 r4=>h' v G4 H4 (sr1.up.back u4) r4
     |re d ρ2=>rw[q3]at h';exact λv σ4 G4 H4 sr4 r4=>h' v σ4 G4 H4 (sr4.back sr.sub0 sr1.up) r4
     |ex C ρ2=>rw[q3]at h';exact λe s' f4=>h' e s' (f4.map λσ4 G4 H4 sr4=>sr4.back sr.sub0 sr1.up)
     |no=>rw[q3]at h';exact h'
    |ex C=>exact absurd q2 (hn _ _ C)
    |no=>rw[q2]at h';exact h'.elim
   ·have hie:i=items.length:=by omega
    subst hie;rw[List.drop_length]at h';exact .inl ⟨hIt.2 (Nat.le_refl _),h' σ' G' H' (sr'.back sr.sub0 sr1.up)⟩
  have hb':PSs X body (λD σ H=>∃G₀ H₀,tS X G₀ H₀ g D σ H):=λpins s σ H D I ⟨G₀,H₀,q⟩=>hb G₀ H₀ pins s σ H D I q;refine D2 hp hcalm hi hg hb' hs pins s σ H D I ⟨G,ρ,sr.e,?_⟩;rw[q];exact λJ G1 H1 u1 iok=>key J G1 H1 u1 iok
 |ex C=>rw[q]at h;have hb':PSs X body (λD σ H=>∃G₀ H₀,tS X G₀ H₀ g D σ H):=λpins s σ H D I ⟨G₀,H₀,q⟩=>hb G₀ H₀ pins s σ H D I q;refine D2 hp hcalm hi hg hb' hs pins s σ H D I ⟨G,ρ,sr.e,?_⟩;rw[q];exact Exx.of sr h
 |no=>rw[q]at h;exact h.elim
end
end L2
variable{g:L2.Ev->L2.O}
namespace L2
open PySem PySem.Spec PyProof.Rows
noncomputable def spF(K:PySem.W.Frag)(f:List D->R D):Sp:=λvs H Q E=>∃G ds,Same G H/\Reps K G vs ds/\(f ds).post (Fin G H (Rep K) Q) (λC=>∀G' H',Up G H G' H'->E (.ref C) none H')
noncomputable abbrev FnF(P:Program)(w:World)(K:PySem.W.Frag)(mg:Str->Option Value)(base:Heap)(k:Nat)(f:Addr)(fd:FuncData)(ps:List Str)(g:List D->R D):Prop:=FnOk P w K mg base (CXo P w) k f fd ps (λvs H Q E=>vs.length=ps.length/\spF K g vs H Q E)
section
variable{p:Pos}{e:Expr}{g:List D->R D}
def Go(F:FnF X.prog X.w X.K X.mg X.base k f fd ps g)(hr:Room k X.A)(hg:Gl X x)(hm:X.mg x=some (.ref f))(hk:PySem.W.keepIn X.K (.ref f)=true)(hb:Binds X.K fd ps [])(ha:PFA X (e::es) gl)(hdb:(x==("__debug__":Str))=false:=by decide)(he:starEach (e::es) X.env=(false,eval e X.env)::starEach es X.env:=by rfl)(hpl:(backTo pos (starEach es X.env)).any (·.1)=false:=by rfl):
  PF X (.Call (.Name x p) (e::es) [] pos) (λρ=>gl ρ>>=λds=>if ds.length=ps.length then g ds else .no):=by
 intro pins s σ H Q I h;obtain⟨G,ρ,st,h⟩:=h;have t:tAF X gl σ H (λvs H1=>∃G1 ds,Up G H G1 H1/\Same G1 H1/\Reps X.K G1 vs ds/\ds.length=ps.length/\(g ds).post (Fin G1 H1 (Rep X.K) Q) (Exx X σ G1 H1)):=by
  refine tG.intro st h λds vs G1 H1 u1 st1 r1 h1=>?_;by_cases hl:ds.length=ps.length;·rw[if_pos hl]at h1;exact⟨G1,ds,u1,st1.sub,r1,hl,h1⟩
  ·rw[if_neg hl]at h1;exact h1.elim
 refine wpAny_Call_Name_kw (mi I hg hm ?_ hdb);refine PySem.W.callWith_K I.ok.mod.kin hk (thn (ha pos pins s σ H _ I t) λus s1 q=>⟨?_,?_⟩) he hpl;·obtain⟨vs,H1,I1,r,_⟩:=q;exact I1.kIn
 obtain⟨vs,H1,I1,r,G1,ds,u1,sub1,rp,hl,h1⟩:=q;have hvl:vs.length=ps.length:=by rw[rp.length];exact hl
 have hul:(us++[]).length=ps.length:=by rw[List.append_nil,<- r.length];exact hvl
 have hbb:=hb s1 us I1.kIn hul;rw[List.append_nil]at hbb;refine wpAny_call (codeAny_mono (F.run X.A X.stack s1 H1 ⟨us,[]⟩ us vs Q (λc _ H'=>∃C G',c=.ref C/\Up G1 H1 G' H'/\Exx X σ G1 H1 C) hr I1.env0 hbb r ⟨hvl,G1,ds,sub1,rp,h1.mono (λ_ q=>q) λC q G' H' u=>⟨C,G',rfl,u,q⟩⟩) λr' s' hq=>?_);cases r' with
 |error e'=>obtain⟨a,C,H',rfl,fl,C',G',ec,u,q⟩:=hq;cases ec;exact q _ _ ⟨G1,H1,.refl sub1,pins,s1,a,rfl,I1,.inr (.inl ⟨G',H',fl,u⟩)⟩
 |ok fl=>
  cases fl with
  |ret u=>exact I1.after hq
  |_=>exact False.elim hq
end
def ObjOk.there{w:World}{o:HO}(x:ObjOk P w H h a o):∃ob,h.get? a=some ob:=by
 cases o with
 |lst xs=>obtain⟨_,_,_,_,e⟩:=x;exact⟨_,e⟩
 |tup xs=>obtain⟨_,_,_,o,e,_⟩:=x;exact⟨_,e⟩
 |dK kvs=>obtain⟨_,_,_,_,o,_,_,e,_⟩:=x;exact⟨_,e⟩
 |dT kvs=>obtain⟨_,_,_,_,o,_,_,e,_⟩:=x;exact⟨_,e⟩
 |set S n=>obtain⟨o,_,_,_,e,_⟩:=x;exact⟨_,e⟩
 |ins C dx fs=>obtain⟨_,_,_,e,_⟩:=x;exact⟨_,e⟩
 |own y=>obtain⟨_,e⟩:=x;exact⟨_,e⟩
 |xd fs=>obtain⟨_,⟨_,_,_,e,_⟩,_⟩:=x;exact⟨_,e⟩
 |rng lo hi=>obtain⟨_,_,_,e⟩:=x;exact⟨_,e⟩
 |frz ob u=>obtain⟨e,_⟩:=x;exact⟨_,e⟩
 |tbl ps=>obtain⟨_,e,_⟩:=x;exact⟨_,e⟩
 |met f y=>exact⟨_,show h.get? a=some _ from x⟩
 |ext φ=>obtain⟨_,⟨_,e⟩,_⟩:=x;exact⟨_,e⟩
def Dk{env:Env}{outer:List Env}{L:Addr}(h:env.frame=some L):frs (env::outer)=L::frs outer:=by unfold frs;rw[List.filterMap_cons,h]
section
variable{w:World}{h1 h2 hm:Heap}{l l':List Addr}{B:Heap}
def HOk.flight(x:HOk P w H' h1)(hb:B.StaysIn h2)(hk:∀b o,b∉l->((∃o0,hm.get? b=some o0)\/∃u,H' b=some u)->h1.get? b=some o->B.get? b=some o)(hl:∀b∈l,H' b=none):HOk P w H' h2:=λa o e=>by
 refine(x a o e).stay (λb u hbb q=>hb b u (hk b u (λz=>?_) (.inr ?_) q)) (λ_ z=>z) (λ_ _ z=>z)
 ·rcases hbb with rfl|hbb;·rw[hl _ z]at e;cases e
  ·rw[hl _ z]at hbb;cases hbb
 ·rcases hbb with rfl|hbb;·exact⟨_,e⟩
  ·exact⟨_,hbb⟩
def Un.flight{ex:List Addr}(u:Un l' ex H H' h h1)(hb:B.StaysIn h2)(sm:h1.UpToSlots h2)(hk:∀b o,b∉l->((∃o0,hm.get? b=some o0)\/∃u,H' b=some u)->h1.get? b=some o->B.get? b=some o)(lt:∀b o,h.get? b=some o->∃o0,hm.get? b=some o0)(hl:∀b∈l,b∈l'\/h.objs.size<=b)(hd:∀b∈l,∀o,h1.get? b=some o->∀vs,o.data≠.fields vs):Un l' ex H H' h h2:=by
 refine⟨λb o e nn hb' hx=>?_,λb o e nn hb' hx=>?_,u.free,λb o e hx=>?_,u.tups,u.frzs,u.tbls⟩
 ·have q:=u.keep b o e nn hb' hx;refine hb b o (hk b o (λz=>?_) (.inl (lt b o e)) q);rcases hl b z with z|z;·exact hb' z
  ·exact absurd (Heap.lt_size e) (Nat.not_lt.mpr z)
 ·obtain⟨sl,q⟩:=u.slot b o e nn hb' hx;by_cases z:b∈l;·obtain⟨sl',q'⟩:=sm b _ q (hd b z _ q);exact⟨sl',q'⟩
  ·exact⟨sl,hb b _ (hk b _ z (.inl (lt b o e)) q)⟩
 ·obtain⟨o',q⟩:=u.there b o e hx;by_cases z:b∈l;·obtain⟨sl',q'⟩:=sm b _ q (hd b z _ q);exact⟨_,q'⟩
  ·exact⟨o',hb b _ (hk b _ z (.inl (lt b o e)) q)⟩
end
def FunFrames.data{base:Heap}:∀{l:List Env},h.FunFrames base l->∀b∈frs l,∃o,h.get? b=some o/\(∀vs,o.data≠.fields vs)/\base.get? b=none:=λ{l} hf b hb=>by obtain⟨h1,o,h2,h3⟩:=hf.mem hb;exact⟨o,h2,h3,h1⟩
noncomputable def gCx(P:Program)(w:World)(K:PySem.W.Frag)(mg:Str->Option Value)(base:Heap)(N:List Str)(env:Env)(fn:Str->Bool)(A:Around)(outer:List Env)(s:Shared)(H:Hp)(E:XK):Cx where
 prog:=P
 w:=w
 K:=K
 mg:=mg
 base:=base
 A:=A.deeper env
 N:=N
 s₀:=s
 H₀:=H
 env:=env
 outer:=outer
 stack:=env::outer
 ex:=[]
 calm:=true
 fn:=fn
 pn:=[]
 xe:=λe s'=>wpAny (model P w) (A.deeper env) (leaving env e) (λ_ s''=>CXo P w outer H s E e s'') (λe' s''=>CXo P w outer H s E e' s'') s'
def GU{w:World}{K:PySem.W.Frag}{mg:Str->Option Value}{base:Heap}{N:List Str}{env:Env}{fn:Str->Bool}{A:Around}{outer:List Env}{E:XK}{e:Value}(hloc:env.locals=s.heap.objs.size)(hf:env.frame=some s.heap.objs.size)(fl:FlyS (gCx P w K mg base N env fn A outer s H E) G H ρ C e s')(hE:∀G' H',Up G H G' H'->E (.ref C) none H'):(gCx P w K mg base N env fn A outer s H E).xe e s':=by
 obtain⟨σ,H₁,pins,s₁,a,rfl,I,way⟩:=fl;have hfr:=I.ok.frames;have hst:frs (env::outer)=s.heap.objs.size::frs outer:=Dk hf;have old:∀b o,s.heap.get? b=some o->∃o0,s₁.heap.get? b=some o0:=λb o e=>I.base.there b o e (by show b∉([]:List Addr);simp);have fin:∀{H':Hp}{G':Hp}{s':Shared}{h'' B:Heap}{a0:Value},Inv (gCx P w K mg base N env fn A outer s H E) pins σ H' s'->StR K G H G' H' σ ρ->H' a=none->Heap.FlyingW B outer a (.ref C) a0 h''->s'.heap.UpToSlots h''->
   (∀b o,b∉s.heap.objs.size::frs outer->((∃o0,s₁.heap.get? b=some o0)\/∃u,H' b=some u)->s'.heap.get? b=some o->B.get? b=some o)->CXo P w outer H s E (.ref a) { s' with heap:=h'' }:=by
  intro H' G' s' h'' B a0 J up ha fl sm hk;have J0:H' s.heap.objs.size=none:=by have q:H' env.locals=none:=J.free;rw[hloc]at q;exact q
  have fr0:∀b∈frs outer,H' b=none:=λb hb=>J.stkFree b (by show b∈frs (env::outer);rw[hst];exact List.mem_cons_of_mem _ hb);have frA:∀b∈s.heap.objs.size::frs outer,H' b=none:=λb hb=>by
   rcases List.mem_cons.mp hb with rfl|hb;·exact J0
   ·exact fr0 b hb
  have dat:∀b∈s.heap.objs.size::frs outer,∀o,s'.heap.get? b=some o->∀vs,o.data≠.fields vs:=λb hb o e=>by obtain⟨o',e',d',_⟩:=FunFrames.data J.stack b (by show b∈frs (env::outer);rw[hst];exact hb);rw[e]at e';cases e';exact d'
  have hok:=J.hok.flight fl.1 hk frA;have un:=Un.flight J.base fl.1 sm hk old (λb hb=>(List.mem_cons.mp hb).elim (λz=>.inr (by rw[z];exact Nat.le_refl _)) .inl) dat;refine⟨a,C,H',rfl,⟨J.os,J.bare,un,hok,ha,B,a0,fl,λb o hb ho e=>?_⟩,hE G' H' up.up⟩;have nb:b∉s.heap.objs.size::frs outer:=λz=>by
   rcases List.mem_cons.mp z with z|z
   ·rcases ho with⟨o0,ho⟩|⟨u,ho⟩;·rw[z]at ho;exact Nat.lt_irrefl _ (Heap.lt_size ho)
    ·rw[z,J0]at ho;cases ho
   ·exact hb z
  have ho':=ho.imp (λ⟨o0,z⟩=>old b o0 z) id;have ex:∃o',s'.heap.get? b=some o':=by
   rcases ho with⟨o0,ho⟩|⟨u,ho⟩;·exact J.base.there b o0 ho (by show b∉([]:List Addr);simp)
   ·exact(J.hok b u ho).there
  obtain⟨o',e'⟩:=ex;have q:=hk b o' nb ho' e';have q2:=fl.1 b o' q;have e2:=e;rw[q2]at e2;cases e2;exact q
 rcases way with⟨G₁,h',vs,sr,made,rfl⟩|⟨G',H',⟨os,bare,un,hok,ha,B,a0,fl,hk⟩,up⟩|⟨G',H',L',hL,⟨os,bare,⟨ch,hch,un⟩,hok,ha,_,B,a0,fl,hk⟩,up⟩
 ·have J:Inv (gCx P w K mg base N env fn A outer s H E) pins σ H₁ { s₁ with heap:=h' }:=I.kept made.keeps;have hin:∀en∈(env::outer),∀b,en.frame=some b->b∈s.heap.objs.size::frs outer:=λen he b hb=>by rw[<- hst];exact List.mem_filterMap.mpr ⟨en,he,hb⟩
  refine wpAny_leaves_madeW hfr hf (λb o q=>PySem.W.of_hideAll _ q) (PySem.W.funFrames_hide I.stack hin) made λh'' t fl' _ _ sm=>?_;have ha:H₁ a=none:=by
   cases q:H₁ a with
   |none=>rfl
   |some u=>obtain⟨ob,e⟩:=(I.hok a u q).there;rw[made.new]at e;cases e
  refine fin J sr ha fl' sm λb o hb ho e=>?_;have e1:s₁.heap.get? b=some o:=by
   rcases ho with⟨o0,ho⟩|⟨u,ho⟩;·have q:=made.keeps b o0 ho;have e':=e;rw[q]at e';cases e';exact ho
   ·obtain⟨ob,ho⟩:=(I.hok b u ho).there;have q:=made.keeps b ob ho;have e':=e;rw[q]at e';cases e';exact ho
  exact PySem.W.hideAll_get _ e1 hb
 ·have J:=I.call' os un hok bare (λb z=>absurd z (by simp));exact wpAny_leaves_onW hfr hf fl λh'' fl' sm=>fin J up ha fl' sm λb o hb ho e=>hk b o (by show b∉frs (env::outer);rw[hst];exact hb) ho e
 ·have J:=I.call' os un hok bare hch;have eL:=Option.some.inj (hf.symm.trans hL);rw[<- eL]at fl;refine wpAny_bind (wpAny_noteFrame_againW hf fl.2.2.2 (wpAny_landsW fl λh'' fl' sm=>?_));obtain⟨k1,k2,⟨_,_,k3⟩,k4⟩:=fl';exact fin J up ha ⟨k1,k2,k3,k4⟩ sm λb o hb ho e=>hk b o (by show b∉frs (env::outer);rw[hst];exact hb) ho e
def qt{w:World}{K:PySem.W.Frag}{mg:Str->Option Value}{base:Heap}{N:List Str}{cd:Value}{A:Around}{outer:List Env}{E:XK}{e:Value}(fl:FlyS (hU (CXo P w) P w K mg base N qual scope f cd A outer s H E) G H ρ C e s')(hE:∀G' H',Up G H G' H'->E (.ref C) none H'):(hU (CXo P w) P w K mg base N qual scope f cd A outer s H E).xe e s':=
 GU rfl rfl fl hE
noncomputable def aj(n:Nat)(ds:List D):Ev:=ds.map (λd=>some (.val d))++List.replicate (n - ds.length) none
noncomputable def ak(o:O):R D:=match o with
 |.rt d=>.ok d
 |.re d _=>.ok d
 |.nx _=>.ok .non
 |.ex C _=>.ex C
 |_=>.no
def we{K:PySem.W.Frag}{N:List Str}(sub:Same G H)(r:Reps K G vs ds):StR K G H G H (start N vs) (aj N.length ds):=by
 have hl:=r.length;have get:∀(i:Nat) x,(aj N.length ds)[i]?=some (some x)->∃d,ds[i]?=some d/\x=.val d:=λi x e=>by
  unfold aj at e;by_cases hi:i<ds.length
  ·rw[List.getElem?_append_left (by simpa using hi),List.getElem?_map]at e;cases q:ds[i]? with
   |none=>rw[q]at e;cases e
   |some d=>rw[q]at e;cases e;exact⟨d,rfl,rfl⟩
  ·rw[List.getElem?_append_right (by simpa using hi),List.getElem?_replicate]at e;split at e <;> cases e
 have no:NoOwn (aj N.length ds):=λi x e=>by obtain⟨d',_,q⟩:=get i _ e;exact⟨d',q⟩
 refine⟨⟨sub,by simp[start,aj,hl],λi d e=>?_,λi m C p fs e=>absurd e (no.obj i m C p fs)⟩,sub,.refl sub,λi es e=>?_,λi j es fs l e=>?_,no.ob⟩;·obtain⟨d',e',q⟩:=get i _ e;cases q;obtain⟨v,ev,rv⟩:=r.get e';refine⟨v,?_,rv⟩;unfold start;rw[List.getElem?_append_left (by have:=(List.getElem?_eq_some_iff.mp ev).1;simpa using this),List.getElem?_map,ev];rfl
 ·obtain⟨d',_,q⟩:=get i _ e;cases q
 ·obtain⟨d',_,q⟩:=get i _ e;cases q
def Fun.okF{w:World}{K:PySem.W.Frag}{mg:Str->Option Value}{base:Heap}{N:List Str}(F:Fun K x qual st f fd)(S:FnScope N ps (ah st))(hbody:∀(cdv:Value)(A:Around)(outer:List Env)(s:Shared)(H:Hp)(E:XK),Room k (A.deeper (envOfC qual (ah st) s.heap.objs.size f cdv))->lV (hU (CXo P w) P w K mg base N qual (ah st) f cdv A outer s H E) (aZ st) g):
  FnF P w K mg base (k+1) f fd ps (λds=>ak (g (aj N.length ds))):=by
 obtain⟨oc,od,kV,doc,pm,an,cdv,ct,osl,rfl,lk,hcd⟩:=F.ex;refine GN lk hcd S (λvs H Q E h=>h.1) λA outer s H vs Q E hr hsp=>?_;obtain⟨hl,G,ds,sub,r,h⟩:=hsp;refine⟨_,hbody cdv A outer s H E hr G H,G,aj N.length ds,we sub r,?_⟩;dsimp only at h;cases q:g (aj N.length ds)with
 |nx ρ=>rw[q]at h;exact λσ G' H' sr=>h .non G' H' sr.up .non
 |rt d=>rw[q]at h;exact λv G' H' u rv=>h v G' H' u rv
 |re d ρ=>rw[q]at h;exact λv σ G' H' sr rv=>h v G' H' sr.up rv
 |bk ρ=>rw[q]at h;exact h.elim
 |ct ρ=>rw[q]at h;exact h.elim
 |ex C ρ=>rw[q]at h;exact λe s' fl=>qt fl h
 |no=>rw[q]at h;exact h.elim
theorem nV:fillsNumberSlot (.type "tuple") "mul"=pure false:=
 PySem.fillsNumberSlot_seq F.slot_tuple_mul.lookup (by decide +kernel) F.slot_tuple_rmul.lookup (by decide +kernel)
def Hb:seqRepeat? (.type "tuple")=pure (some (.builtin "tuple.__mul__")):=by rfl
open Builtin in
def rB(a:Int)(t:Tok)(l:Addr)(items:Array Value)(n:Nat)(dd:Option Addr)(sl:Array (Option Value)):
  Meets (Builtin.«int.__rmul__» ⟨[.int a t,.ref l],[]⟩) (λ_ Rr s=>s.heap.get? l=some { cls:=.type "tuple",dict:=dd,data:=.seq items n,slots:=sl }/\Rr (.ok (.ret Value.notImplemented)) s):=
 .of_wp λprog w A Rr s h=>by obtain⟨hp,g,d,tk,os⟩:=s;obtain⟨hl,h⟩:=h;wp_walk;exact⟨_,rfl,h⟩
section
open Builtin AutoSeq1
variable(l:Addr)(items:Array Value)(n:Nat)(dd:Option Addr)(sl:Array (Option Value))(x:Int)(u:Tok)(h1:(decide (x < -(2 ^ 63)) || decide (x ≥ 2 ^ 63))=false)
include h1
def BK(hc:(items.isEmpty || x==1)=true):
  Meets (Builtin.«tuple.__mul__» ⟨[.ref l,.int x u],[]⟩) (λ_ Rr s=>s.heap.get? l=some { cls:=.type "tuple",dict:=dd,data:=.seq items n,slots:=sl }/\Rr (.ok (.ret (.ref l))) s):=
 .of_wp λprog w A Rr s h=>by
  obtain⟨hp,g,d,tk,os⟩:=s;obtain⟨hl,h⟩:=h;have f1:=idx_int
  wp_walk
  refine wpAny_ite_false (by rw[h1];rfl) ?_;refine wpAny_bind (tupleItemsOf_ (show IsTup hp l items from⟨_,hl,rfl,n,rfl⟩) ?_);dsimp only;rw[if_pos hc];unfold Tuple.tupleIsExact;refine wpAny_bind (wpAny_bind (wpAny_typeOf ⟨_,hl,rfl⟩ (wpAny_pure ?_)));rw[if_pos (by decide)];exact wpAny_bind (wpAny_rule (wpAny_pure ⟨_,rfl,h⟩))
def Cn(hc : ¬ (items.isEmpty || x==1)=true)(h2:(decide (x<=0) || items.isEmpty)=true):
  Meets (Builtin.«tuple.__mul__» ⟨[.ref l,.int x u],[]⟩) (λ_ Rr s=>s.heap.get? l=some { cls:=.type "tuple",dict:=dd,data:=.seq items n,slots:=sl }/\Rr (.ok (.ret (.ref s.heap.objs.size))) { s with heap:=s.heap.push { cls:=.type "tuple",data:=.seq #[] } }):=
 .of_wp λprog w A Rr s h=>by
  obtain⟨hp,g,d,tk,os⟩:=s;obtain⟨hl,h⟩:=h;have f1:=idx_int
  wp_walk
  refine wpAny_ite_false (by rw[h1];rfl) ?_;refine wpAny_bind (tupleItemsOf_ (show IsTup hp l items from⟨_,hl,rfl,n,rfl⟩) ?_);dsimp only;rw[if_neg hc,if_pos h2];exact wpAny_bind (m:=Builtin.Tuple.tupleExact _) (wpAny_newObj_type (wpAny_pure ⟨_,rfl,h⟩) (Nat.zero_le _))
def Cj(hc : ¬ (items.isEmpty || x==1)=true)(h2 : ¬ (decide (x<=0) || items.isEmpty)=true)(hz:items.size * x.toNat<=sizeLine):
  Meets (Builtin.«tuple.__mul__» ⟨[.ref l,.int x u],[]⟩) (λ_ Rr s=>s.heap.get? l=some { cls:=.type "tuple",dict:=dd,data:=.seq items n,slots:=sl }/\
   Rr (.ok (.ret (.ref s.heap.objs.size))) { s with heap:=s.heap.push { cls:=.type "tuple",data:=.seq (List.foldl (λx1 x2=>x1++x2) #[] (List.replicate x.toNat items)) } }):=
 .of_wp λprog w A Rr s h=>by
  obtain⟨hp,g,d,tk,os⟩:=s;obtain⟨hl,h⟩:=h;have f1:=idx_int;have hx:0<x:=by
   cases q:decide (x<=0)with
   |true=>rw[q]at h2;exact absurd rfl h2
   |false=>exact Int.not_le.mp (of_decide_eq_false q)
  have ez:(items.size:Int) * x=((items.size * x.toNat:Nat):Int):=by rw[Int.natCast_mul,Int.toNat_of_nonneg (Int.le_of_lt hx)]
  have hlim:(sizeLine:Nat)<=(2 ^ 63 - 1) / 8:=by decide
  have h3 : ¬ ((items.size:Int) * x > (2 ^ 63 - 1) / 8):=by
   rw[ez];have:((sizeLine:Nat):Int)<=(2 ^ 63 - 1) / 8:=by decide
   omega
  have h4 : ¬ (Tuple.tupleTooMany ((items.size:Int) * x)=true):=by unfold Tuple.tupleTooMany;rw[ez];intro q;have:=of_decide_eq_true q;omega
  have hfz:(List.foldl (λx1 x2=>x1++x2) #[] (List.replicate x.toNat items)).size<=sizeLine:=by have e:=jI items.toList x.toNat [];simp only[List.nil_append,Array.toArray_toList]at e;rw[e,List.size_toArray,ql,Array.length_toList,Nat.mul_comm];exact hz
  wp_walk
  refine wpAny_ite_false (by rw[h1];rfl) ?_;refine wpAny_bind (tupleItemsOf_ (show IsTup hp l items from⟨_,hl,rfl,n,rfl⟩) ?_);dsimp only;rw[if_neg hc,if_neg h2,if_neg h3,if_neg h4];exact wpAny_bind (m:=Builtin.Tuple.tupleExact _) (wpAny_newObj_type (wpAny_pure ⟨_,rfl,h⟩) hfz)
end
section
noncomputable def Kk(K:PySem.W.Frag):R2:=λx y H Q=>∃l k xs,x=.ref l/\y=.int k/\SqT K H l xs/\-(2 ^ 63)<=k/\k<2 ^ 63/\xs.length * k.toNat<=sizeLine/\
 (xs=[]\/k=1->Q (.ref l) H)/\(xs≠[]->k≠1->∀p,H p=none->Q (.ref p) (upd H p (.tup (List.replicate k.toNat xs).flatten)))
theorem op_repT:OpR X (binaryOp .Mult) (Kk X.K):=by
 intro pins s σ H x y v u Q I rx ry h;obtain⟨l,k,xs,rfl,rfl,hH,h1,h2,hz,q0,q1⟩:=h;cases rx;obtain⟨t,rfl⟩:=ry;obtain⟨its,r,p,hzz⟩:=I.tuple hH;obtain⟨⟨cls,dd,data,sl⟩,ho,hc,n,hd⟩:=id p;subst hc hd;have hlen:=r.length.symm;have hin:(decide (k < -(2 ^ 63)) || decide (k ≥ 2 ^ 63))=false:=by rw[decide_eq_false (by omega),decide_eq_false (by omega)];rfl
 have emp:its.toArray.isEmpty=decide (xs=[]):=by
  cases its with
  |nil=>cases r;rfl
  |cons a b=>cases r;rfl
 refine wpAny_binaryOp_repeat_ref (by decide) ⟨_,ho,rfl⟩ (λs'=>typeIs_int s' k t) nV F.fills_int_mul F.slot_int_rmul Hb F.slot_int_index.lookup
  (call_meets F.slot_int_rmul (typeIs_int s k t) F.entry_int_rmul (F.args_int_rmul_2 _ _) (rB k t l its.toArray n dd sl) ⟨ho,rfl,⟨_,ho,rfl⟩,?_⟩);by_cases hc:(its.toArray.isEmpty || k==1)=true;·refine call_meets F.slot_tuple_mul ⟨_,ho,rfl⟩ F.entry_tuple_mul (F.args_tuple_mul_2 _ _) (BK l its.toArray n dd sl k t hin hc) ⟨ho,.ref l,H,I,rfl,q0 ?_⟩;rw[emp]at hc;simpa using hc
 ·have hne:xs≠[]/\k≠1:=by rw[emp]at hc;simpa using hc
  have fin:∀its',its'=(List.replicate k.toNat its).flatten->EP X pins σ Q (.ref s.heap.objs.size) { s with heap:=s.heap.push { cls:=.type "tuple",data:=.seq its'.toArray } }:=λits' e=>by subst e;refine⟨.ref s.heap.objs.size,_,I.laid (λb ob q=>Heap.get?_push_of_some _ q) (Nat.le_refl _) ?_,rfl,q1 hne.1 hne.2 _ I.fresh⟩;exact⟨by rw[ql,Nat.mul_comm];exact hz,_,r.rep k.toNat,IsTup.new _ _⟩
  by_cases h0:(decide (k<=0) || its.toArray.isEmpty)=true
  ·refine call_meets F.slot_tuple_mul ⟨_,ho,rfl⟩ F.entry_tuple_mul (F.args_tuple_mul_2 _ _) (Cn l its.toArray n dd sl k t hin hc h0) ⟨ho,?_⟩;refine fin [] ?_;have:k<=0:=by rw[emp,decide_eq_false hne.1,Bool.or_false]at h0;exact of_decide_eq_true h0
   rw[Int.toNat_of_nonpos this];rfl
  ·refine call_meets F.slot_tuple_mul ⟨_,ho,rfl⟩ F.entry_tuple_mul (F.args_tuple_mul_2 _ _) (Cj l its.toArray n dd sl k t hin hc h0 (by rw[List.size_toArray,hlen];exact hz)) ⟨ho,?_⟩;have e:=jI its k.toNat [];rw[e];exact fin _ rfl
def Gr(x:Str)(n:Int):(Txt.mul x n).cps.toList=(List.replicate n.toNat x.cps.toList).flatten:=by
 unfold Txt.mul;by_cases h1:n<1;·rw[if_pos h1,Int.toNat_of_nonpos (by omega)];rfl
 ·rw[if_neg h1];by_cases h2:(n==1 || x.length==0)=true
  ·rw[if_pos h2];rcases Bool.or_eq_true_iff.mp h2 with h|h
   ·have:n=1:=by simpa using h
    subst this;simp
   ·have:x.cps.toList=[]:=List.eq_nil_of_length_eq_zero (by rw[Str.len_list];simpa using h);rw[this];simp
  ·rw[if_neg h2];have:∀(m:Nat)(acc:Array Nat),((List.replicate m x.cps).foldl (·++·) acc).toList=acc.toList++(List.replicate m x.cps.toList).flatten:=by
    intro m;induction m with
    |zero=>intro acc;simp
    |succ m ih=>intro acc;rw[List.replicate_succ,List.foldl_cons,ih,List.replicate_succ,List.flatten_cons];simp
   simpa using this n.toNat #[]
def op_mul_str:OpR X (binaryOp .Mult) (λx y H Q=>∃(i:Str)(k:Int),x=.str i/\y=.int k/\-(2 ^ 63)<=k/\k<2 ^ 63/\i.length * k.toNat<=sizeLine/\Q (.str (Txt.mul i k)) H):=by
 intro pins s σ H x y v u Q I rx ry h;obtain⟨i,k,rfl,rfl,h1,h2,hz,q⟩:=h;obtain⟨t,rfl⟩:=rx;obtain⟨t',rfl⟩:=ry;refine SB.mul ⟨by rw[decide_eq_false (by omega),decide_eq_false (by omega)];rfl,λh3 h4=>?_,λh3 h4=>?_⟩ λt'' n=>⟨.str _,H,I.tok _,⟨_,rfl⟩,q⟩
 ·have hk:0<k:=by omega
  intro h5;have h7:(((i.length * k.toNat:Nat)):Int)=(i.length:Int) * k:=by rw[Int.natCast_mul,Int.toNat_of_nonneg (by omega)]
  have h8:((2 ^ 63 - 1) / k+1) * k<=(i.length:Int) * k:=Int.mul_le_mul_of_nonneg_right (by omega) (by omega);have h9:2 ^ 63 - 1<((2 ^ 63 - 1) / k+1) * k:=Int.lt_ediv_add_one_mul_self _ hk;have h10:((sizeLine:Nat):Int)<2 ^ 63 - 1:=by decide
  omega
 ·exact decide_eq_false (by omega)
noncomputable def gB:D->D->Option D
 |.int i,.int j=>if (-(2 ^ 64)<i/\i<2 ^ 64)\/(-(2 ^ 64)<j/\j<2 ^ 64)then some (.int (i * j))else none
 |.str x,.int k=>if -(2 ^ 63)<=k/\k<2 ^ 63/\x.length * k.toNat<=sizeLine then some (.str (List.replicate k.toNat x).flatten)else none
 |.tup xs,.int k=>if -(2 ^ 63)<=k/\k<2 ^ 63/\xs.length * k.toNat<=sizeLine then some (.tup (List.replicate k.toNat xs).flatten)else none
 |.lst false xs,.int k=>if -(2 ^ 63)<=k/\k<2 ^ 63/\xs.length * k.toNat<=sizeLine then some (.lst false (List.replicate k.toNat xs).flatten)else none
 |_,_=>none
noncomputable def HX(K:PySem.W.Frag):R2:=λx y H Q=>rI CMul (λi j=>.int (i * j)) x y H Q\/(∃(i:Str)(k:Int),x=.str i/\y=.int k/\-(2 ^ 63)<=k/\k<2 ^ 63/\i.length * k.toNat<=sizeLine/\Q (.str (Txt.mul i k)) H)\/Kk K x y H Q\/MU x y H Q
def EW:OpR X (binaryOp .Mult) (HX X.K):=op_mul.or (op_mul_str.or (op_repT.or IA))
def Jg(K:PySem.W.Frag):ROk K (HX K) gB:=by
 intro G H x y dx dy d Q s rx ry e q;unfold gB at e;split at e
 ·split at e;·rename_i hc;cases e;exact .inl ⟨_,_,rx.int_inv,ry.int_inv,hc,q _ G H (.refl s) (.int _)⟩
  ·cases e
 ·split at e;·rename_i hc;cases e;obtain⟨i,rfl,ei,hi⟩:=rx.str_inv;subst ei;exact .inr (.inl ⟨i,_,rfl,ry.int_inv,hc.1,hc.2.1,hc.2.2,q _ G H (.refl s) (.strL (Gr i _) (by rw[ql,Str.len_list,Nat.mul_comm];exact hc.2.2))⟩)
  ·cases e
 ·split at e
  ·rename_i k hc;cases e;obtain⟨a,vs,rfl,ha,ra⟩:=rx.tup_inv;refine .inr (.inr (.inl ⟨a,_,vs,rfl,ry.int_inv,ha.mono s,hc.1,hc.2.1,by rw[ra.length];exact hc.2.2,λz=>?_,λ_ _ p hp=>q _ _ _ (.new s hp) (.tup (.of aF) ((ra.rep _).mono (.into (s.free hp))))⟩));rcases z with z|z
   ·subst z;cases ra;have e:(List.replicate k.toNat ([]:List D)).flatten=[]:=by simp
    rw[e]at q;exact q _ G H (.refl s) (.tup ha .nil)
   ·subst z;have e:∀l:List D,(List.replicate (1:Int).toNat l).flatten=l:=λl=>by show(List.replicate 1 l).flatten=l;simp
    rw[e]at q;exact q _ G H (.refl s) (.tup ha ra)
  ·cases e
 ·split at e;·rename_i hc;cases e;obtain⟨a,vs,rfl,ha,ra⟩:=rx.lst_inv;exact .inr (.inr (.inr ⟨a,_,vs,rfl,ry.int_inv,s _ _ ha,hc.1,hc.2.1,by rw[ra.length];exact hc.2.2,λp hp=>q _ _ _ (.new s hp) (.lst aF ((ra.rep _).mono (.into (s.free hp))))⟩))
  ·cases e
 ·cases e
def eE{a b:Expr}{ga:Ev->R D}(ha:PF X a ga)(hb:PF X b gb):PF X (.BinOp a .Mult b pos) (g2 gB ga gb):=sV EW (Jg _) ha hb
end
end L2
namespace L2
open PySem PySem.W PySem.Spec PySem.Calls PyProof.Rows
structure ExcCls(K:Frag)(C:Addr):Prop where
 ga:findIn K (.ref C) "__getattribute__"=some (some (.builtin "BaseException.__getattribute__"))
 gt:findIn K (.ref C) "__getattr__"=some none
 cl:findIn K (.ref C) "__class__"=some (some (.builtin "object.__class__"))
 sp:specialIn K (.builtin "object.__class__") "__get__"=some (some (.builtin "getset_descriptor.__get__"))
 tk:takesIn K (.builtin "object.__class__")=some true
 mo:mroIn K C (.type "object")=some true
 be:subIn K (.ref C) (.type "BaseException")=some true
 some:(clsIn K C).isSome=true
section
variable{prog:Program}{w:World}{A:Around}{K:Frag}
section
open Builtin Builtin.ObjectAttr Builtin.Getset_descriptor
end
end
section
variable{A:Around}{Q:Value->Shared->Prop}
noncomputable def tyN:D->Option String
 |.non=>some "NoneType"
 |.bl _=>some "bool"
 |.int _=>some "int"
 |.str _=>some "str"
 |.tup _=>some "tuple"
 |.lst _ _=>some "list"
 |.exc _=>none
 |.dct _ _=>none
def Ik{x:V}{c:Value}{T:String}{b:Bool}(I:Inv X pins σ H s)(sub:Same G H)(r:Rep X.K G x d)(ru:RelV x u)(ht:tyN d=some T)(e:kitOne X.K (.type T) c=some b)(h:∀tk,Q (.bool b) { s with toks:=tk }):
  wpAny (model X.prog X.w) A (call (.builtin "isinstance") [u,c]) Q E s:=by
 cases r with
 |non=>cases ht;cases ru;exact kia_one kitx_none I.kIn True.intro e (λz=>nomatch z) h
 |bl y=>cases ht;cases ru;exact kia_one kitx_bool I.kIn True.intro e (λz=>nomatch z) h
 |int i=>cases ht;obtain⟨t,rfl⟩:=ru;exact kia_one kitx_int I.kIn True.intro e (λz=>nomatch z) h
 |str y hy=>cases ht;obtain⟨t,rfl⟩:=ru;exact kia_one kitx_str I.kIn True.intro e (λz=>nomatch z) h
 |tup hh t=>cases ht;cases ru;obtain⟨its,rv,⟨o,h1,h2,_⟩,_⟩:=I.tuple (hh.mono sub);exact kia_one kitx_tuple I.kIn ⟨o,h1,h2⟩ e (λz=>nomatch z) h
 |lst hh t=>cases ht;cases ru;obtain⟨its,rv,⟨o,n,h1,h2,_⟩,_⟩:=I.list ((SqL.of hh:SqL X.K G _ _).mono sub);exact kia_one kitx_list I.kIn ⟨o,h1,h2⟩ e (λz=>nomatch z) h
 |fls hh t=>cases ht;cases ru;obtain⟨its,rv,⟨o,n,h1,h2,_⟩,_⟩:=I.list (hh.mono sub);exact kia_one kitx_list I.kIn ⟨o,h1,h2⟩ e (λz=>nomatch z) h
 |exc hh=>cases ht
 |dct _ _ _=>cases ht
end
section
variable{e:Expr}{ga:Ev->R D}{p p2:Pos}
noncomputable def kX(f:String->Bool)(d:D):R D:=match tyN d with
 |some t=>.ok (.bl (f t))
 |none=>.no
def lZ{T:String}(f:String->Bool)(hf:∀K:Frag,∀t∈["NoneType","bool","int","str","tuple","list"],kitOne K (.type t) (.type T)=some (f t))(hg:Gl X "isinstance")(hm:X.mg "isinstance"=none)(hg2:Gl X y)(hm2:X.mg y=none)(hv:bootBuiltins y=some (.type T))(ha:PF X e ga)(hs1:starEach [e,.Name y p2] X.env=(false,eval e X.env)::starEach [.Name y p2] X.env:=by rfl)(hn:y≠"__name__":=by decide)(hdb:(y==("__debug__":Str))=false:=by decide):
  PF X (.Call (.Name "isinstance" p) [e,.Name y p2] [] pos) (λρ=>ga ρ>>=kX f):=by
 intro pins s σ H Q I h;have hc:lS X (.builtin "isinstance") (λxs H Q=>∃x G d,xs=[x,.ty T]/\Same G H/\Rep X.K G x d/\∃t,tyN d=some t/\Q (.bl (f t)) H):=by
  intro pins s σ H xs us Q I r ⟨x,G,d,ex,sub,rd,t,et,q⟩;subst ex;obtain⟨u,u2,rfl,r1,r2⟩:=r.two;cases r2;refine Ik I sub rd r1 et (hf X.K t ?_) λtk=>⟨.bl (f t),H,I.tok tk,rfl,q⟩
  cases d <;> cases et <;> simp
 refine wF hc hg hm PyProof.Rows.Boot.«isinstance» (cW ha (cW (EE (v:=.ty T) hg2 hm2 hv rfl hn hdb) jj) hs1) (by decide) (by decide) hs1 rfl pins s σ H Q I ?_;obtain⟨G,ρ,st,h⟩:=h;refine tG.intro st h λx v G1 H1 u1 st1 r1 h1=>?_;refine⟨v,G1,x,rfl,st1.sub,r1,?_⟩;unfold kX at h1;cases et:tyN x with
 |none=>rw[et]at h1;exact h1.elim
 |some t=>rw[et]at h1;exact⟨t,rfl,h1 _ G1 H1 (.refl st1.sub) (.bl _)⟩
end
end L2
namespace L2
open PySem PySem.Spec PyProof.Rows
noncomputable def Bf:List D->Option (List Bool)
 | []=>some []
 |.bl b::ds=>(Bf ds).map (b::·)
 |_=>none
theorem Reps.bls{K:PySem.W.Frag}:∀{vs:List V}{ds:List D}{bs:List Bool},Reps K G vs ds->Bf ds=some bs->vs=bs.map .bl
 |_,_,bs,.nil,e=>by cases e;rfl
 |_,_,bs,.cons r t,e=>by
  cases r with
  |bl b=>
   rename_i ds;unfold Bf at e;cases q:Bf ds with
   |none=>rw[q]at e;cases e
   |some cs=>rw[q]at e;cases e;rw[Reps.bls t q];rfl
  |_=>simp[Bf]at e
theorem Vals.bls:∀{bs:List Bool}{us:List Value},Vals (bs.map V.bl) us->us=bs.map Value.bool
 | [],_,.nil=>rfl
 |b::bs,_,.cons r t=>by rw[Vals.bls t,show _=Value.bool b from r];rfl
section
variable{e o:Expr}{ga:Ev->R D}
noncomputable def NR(K:PySem.W.Frag)(f:List Bool->Bool):List V->Hp->VK->Prop:=λxs H Q=>∃p bs,xs=[.ref p]/\SqL K H p (bs.map V.bl)/\Q (.bl (f bs)) H
def AG(A:Around)(prog:Program)(w:World)(bs:List Bool):TruthOf prog w A (λi v=>(bs.map Value.bool).toArray[i]?=some v) (λi=>bs.getD i true):=by
 intro i v s Q E hP hQ;rw[List.getElem?_toArray,List.getElem?_map]at hP;cases q:bs[i]? with
 |none=>rw[q]at hP;cases hP
 |some b=>
  rw[q]at hP;cases hP;have e:bs.getD i true=b:=by rw[List.getD_eq_getElem?_getD,q];rfl
  have hQ:Q (bs.getD i true) s:=hQ;rw[e]at hQ;exact wpAny_truthy_bool hQ
def yX(hc:X.calm=true):lS X (.builtin "all") (NR X.K λbs=>bs.all id):=by
 intro pins s σ H xs us Q I r ⟨p,bs,ex,hs,q⟩;subst ex;obtain⟨u,rfl,r1⟩:=r.one;cases r1;obtain⟨its,rv,pl,hz⟩:=I.list hs;obtain rfl:=rv.bls;have hh:X.A.in1.handled=none:=I.ok.hd hc;have hlt:p<s.heap.objs.size:=by obtain⟨o,n,e,_⟩:=id pl;exact Heap.lt_size e
 refine call_all_walk (wpAny_pyIter_list pl.isList ?_);refine⟨s.heap.objs.size,[s.heap.objs.size,p],[s.heap.objs.size],_,_,_,λi=>bs.getD i true,rfl,Walks.list hh s.heap.objs.size p (Nat.ne_of_lt hlt) (bs.map Value.bool).toArray,⟨⟨_,Heap.get?_push_size _ rfl,rfl,rfl⟩,?_⟩,AG _ _ _ bs,λh' tk hk=>?_⟩;·obtain⟨o,n,e,c,_,d⟩:=id pl;exact⟨o,Heap.get?_push_of_some _ e,c,n,d⟩
 ·have e:(List.range (bs.map Value.bool).toArray.size).all (λi=>bs.getD i true)=bs.all id:=by rw[List.size_toArray,List.length_map];exact ma rfl
  rw[e];refine⟨.bl _,H,I.kept λb o eb=>hk b o (λz=>?_) (Heap.get?_push_of_some _ eb),rfl,q⟩;have:b=s.heap.objs.size:=by simpa using z
  exact Nat.lt_irrefl _ (this▸Heap.lt_size eb)
noncomputable def BR:List D->Option D
 | [.lst _ ds]=>(Bf ds).map λbs=>.bl (bs.all id)
 |_=>none
def Kb{p:Pos}(hc:X.calm=true)(hg:Gl X "all")(hm:X.mg "all"=none)(ha:PFA X [e] gl)(he:starEach [e] X.env=[(false,eval e X.env)]:=by rfl):PF X (.Call (.Name "all" p) [e] [] pos) (λρ=>gl ρ>>=λds=>ofO (BR ds)):=
 qK (yX hc) (by
  intro G H xs ds d Q s r e q;unfold BR at e;split at e
  ·rename_i f ds;obtain⟨v,rfl,r1⟩:=r.one;obtain⟨a,vs,rfl,h,t⟩:=r1.seq_inv;cases eb:Bf ds with
   |none=>rw[eb]at e;cases e
   |some bs=>rw[eb]at e;cases e;obtain rfl:=t.bls eb;exact⟨a,bs,rfl,h.mono s,q _ G H (.refl s) (.bl _)⟩
  ·cases e) hg hm PyProof.Rows.Boot.«all» ha (he:=by rw[he];rfl)
noncomputable def MI(K:PySem.W.Frag)(T:String)(r:V->List V->Hp->VK->Prop)(f:D->List D->Option D):Prop:=∀(G H:Hp)(x:V)(xs:List V)(dx:D)(ds:List D)(d:D)(Q:VK),Same G H->Rep K G x dx->Reps K G xs ds->f dx ds=some d->Fin G H (Rep K) Q d->r x xs H Q
noncomputable def mf(T:String):D->Bool
 |.str _=>T=="str"
 |.lst _ _=>T=="list"
 |_=>false
def zL{T id:String}{name:Str}{ap cp:Pos}{r:V->List V->Hp->VK->Prop}{f:D->List D->Option D}(pa:PlainAttrs T)(slot:PySem.Slot T name id)(hty:typeOf (.builtin id)=pure (.type "method_descriptor"))(hm:MtR X id r)(hf:MI X.K T r f)(ho:PF X o ga)(ha:PFA X (e::es) gl)(hbase:attributeBase o name X.env (eval o X.env)=eval o X.env:=by rfl)(hfew:((backTo cp (starEach (e::es) X.env)).all (λx=>!x.1) && (backToKw cp (keywordEach [] X.env)).all (λx=>x.1.isSome)
 && decide ((e::es).length+([]:List Keyword).length+(if ([]:List Keyword).isEmpty then 0 else 1)<30))=true:=by rfl)(hline:(ap.endLine==cp.line)=true:=by rfl)(hs:starEach (e::es) X.env=(false,eval e X.env)::starEach es X.env:=by rfl)(hplain:(backTo cp (starEach es X.env)).any (·.1)=false:=by rfl):
  PF X (.Call (.Attribute o name ap) (e::es) [] cp) (λρ=>ga ρ>>=λx=>if mf T x=true then gl ρ>>=λds=>ofO (f x ds)else .no):=by
 intro pins s σ H Q I h;refine Ba pa slot hty hm ho ha hbase hfew hline hs hplain pins s σ H Q I ?_;obtain⟨G,ρ,st,h⟩:=h;refine tG.intro st h λx v G1 H1 u1 st1 r1 h1=>?_;by_cases hk:mf T x=true
 ·rw[if_pos hk]at h1;have ty:tyV X.K T v H1:=by
   cases r1 with
   |str y hy=>exact show T="str" by simpa[mf]using hk
   |lst hh t=>exact .inl ⟨by simpa[mf]using hk,_,.of (st1.sub _ _ hh)⟩
   |fls hh t=>exact .inl ⟨by simpa[mf]using hk,_,hh.mono st1.sub⟩
   |_=>cases hk
  refine⟨ty,tG.intro st1 h1 λds vs G2 H2 u2 st2 r2 h2=>?_⟩;obtain⟨d,e',q⟩:=ofO.ok h2;exact hf G2 H2 v vs x ds d Q st2.sub (r1.mono u2.gg) r2 e' q
 ·rw[if_neg hk]at h1;exact h1.elim
noncomputable def fo(x y:List Nat):List Nat:=(Txt.rstripChars ⟨x.toArray⟩ ⟨y.toArray⟩).cps.toList
noncomputable def kG:D->List D->Option D
 |.str x,[.str y]=>some (.str (fo x y))
 |_,_=>none
def Str.of_list{x:List Nat}(e:y.cps.toList=x):(⟨x.toArray⟩:Str)=y:=by subst e;simp
noncomputable def yh:V->List V->Hp->VK->Prop:=λx vs H Q=>∃y z:Str,x=.str y/\vs=[.str z]/\y.length<=sizeLine/\Q (.str (Txt.rstripChars y z)) H
def yw:MtR X "str.rstrip" yh:=by intro pins s σ H x xs v us Q I rx rv ⟨y,z,ex,exs,hz,q⟩;subst ex exs;obtain⟨t,rfl⟩:=rx;obtain⟨u,rfl,r1⟩:=rv.one;obtain⟨t',rfl⟩:=r1;exact SCL.rstripChars (λt'' k _=>⟨.str _,H,I.tok _,⟨_,rfl⟩,q⟩) hz
def AC(K:PySem.W.Frag):MI K "str" yh kG:=by
 intro G H x xs dx ds d Q s rx rs e q;unfold kG at e;split at e
 ·cases e;obtain⟨v,rfl,r1⟩:=rs.one;obtain⟨i,rfl,ei,hi⟩:=rx.str_inv;obtain⟨j,rfl,ej,hj⟩:=r1.str_inv;refine⟨i,j,rfl,rfl,hi,q _ G H (.refl s) (.strL ?_ ?_)⟩;·unfold fo;rw[Str.of_list ei,Str.of_list ej]
  ·unfold fo;rw[Str.of_list ei,Str.of_list ej,Str.len_list];exact Nat.le_trans (len_rstripChars i j) hi
 ·cases e
def AQ{ap cp:Pos}(ho:PF X o ga)(ha:PFA X [e] gl)(hbase:attributeBase o "rstrip" X.env (eval o X.env)=eval o X.env:=by rfl)(hfew:((backTo cp (starEach [e] X.env)).all (λx=>!x.1) && (backToKw cp (keywordEach [] X.env)).all (λx=>x.1.isSome)
 && decide ([e].length+([]:List Keyword).length+(if ([]:List Keyword).isEmpty then 0 else 1)<30))=true:=by rfl)(hline:(ap.endLine==cp.line)=true:=by rfl)(hs:starEach [e] X.env=(false,eval e X.env)::starEach [] X.env:=by rfl):
  PF X (.Call (.Attribute o "rstrip" ap) [e] [] cp) (λρ=>ga ρ>>=λx=>if mf "str" x=true then gl ρ>>=λds=>ofO (kG x ds)else .no):=
 zL PySem.F.plainAttrs_str PySem.F.slot_str_rstrip PySem.F.type_str_rstrip yw (AC _) ho ha hbase hfew hline hs rfl
end
noncomputable def qM:List Nat->List D->Ev->R Ev
 | [],[],ρ=>.ok ρ
 |i::is,d::ds,ρ=>qM is ds (ρ.set i (some (.val d)))
 |_,_,_=>.no
theorem oJ:∀(is:List Nat)(ds:List D)(ρ:Ev)(C:Addr),qM is ds ρ≠.ex C
 | [],[],_,_=>by intro z;cases z
 | [],_::_,_,_=>by intro z;cases z
 |_::_,[],_,_=>by intro z;cases z
 |i::is,d::ds,ρ,C=>oJ is ds _ C
section
variable{e:Expr}{ga:Ev->R D}
noncomputable def KO(X:Cx)(es:List Expr)(is:List Nat):Prop:=PGs X es (λvs σ H Q=>∃G₀ H₀ G ρ ds ρ',StR X.K G₀ H₀ G H σ ρ/\Reps X.K G vs ds/\qM is ds ρ=.ok ρ'/\∀σ',StR X.K G₀ H₀ G H σ' ρ'->Q σ' H)
def iS:KO X [] []:=by
 intro pins s σ H vs us Q I r h;obtain⟨G₀,H₀,G,ρ,ds,ρ',sr,rd,e,q⟩:=h;refine ET pins s σ H vs us Q I r ?_;cases rd with
 |nil=>cases e;exact⟨rfl,q σ sr⟩
 |cons _ _=>cases e
def bE(i:Nat){p:Pos}{is:List Nat}(hN:X.N.Nodup)(h2:KO X es is)(hi:X.N[i]?=some x:=by rfl)(hx:Loc X.env.scope x:=by first|exact Or.inl rfl|exact Or.inr rfl)(hs:(assignEach (.Name x p::es) X.env).map (·.2)=assign (.Name x p) X.env::(assignEach es X.env).map (·.2):=by rfl)(hf:X.fn x=true\/X.env.scope.names.lookup x=some .local:=by first|exact .inl rfl|exact .inr rfl):
  KO X (.Name x p::es) (i::is):=by
 intro pins s σ H vs us Q I r h;obtain⟨G₀,H₀,G,ρ,ds,ρ',sr,rd,e,q⟩:=h;refine Dm (jn hN hi hx hf) h2 hs pins s σ H vs us Q I r ?_;cases rd with
 |nil=>cases e
 |cons r1 t1=>exact⟨_,_,rfl,G₀,H₀,G,_,_,ρ',sr.set r1 i,t1,e,q⟩
noncomputable def ur(is:List Nat)(d:D)(ρ:Ev):R Ev:=match d with
 |.tup ds=>qM is ds ρ
 |_=>.no
theorem sI:∀(is:List Nat)(ds:List D)(ρ ρ':Ev),qM is ds ρ=.ok ρ'->ds.length=is.length
 | [],[],_,_,_=>rfl
 | [],_::_,_,_,e=>by cases e
 |_::_,[],_,_,e=>by cases e
 |i::is,d::ds,ρ,ρ',e=>by simp[sI is ds _ ρ' e]
def kA{is:List Nat}(hc:X.calm=true)(h:KO X es is)(hn:(assignEach es X.env).length=is.length:=by rfl)(hst:(assignEach es X.env).findIdx? (·.1)=none:=by rfl):PGF X (.Tuple es k pos) (ur is):=by
 intro pins s σ H v u Q I r q;obtain⟨G₀,H₀,G,ρ,d,ρ',sr,rd,e,q⟩:=q;refine Kp hc h hn hst pins s σ H v u Q I r ?_;cases rd with
 |tup hh t=>rename_i ds;exact⟨_,_,rfl,hh.mono sr.e.sub,by rw[t.length];exact sI is ds ρ ρ' e,G₀,H₀,G,ρ,ds,ρ',sr,t,e,q⟩
 |_=>cases e
def fF(is:List Nat):∀(d:D)(ρ:Ev)(C:Addr),ur is d ρ≠.ex C:=λd ρ C=>by
 cases d with
 |tup ds=>exact oJ is ds ρ C
 |_=>intro z;cases z
def Cy(i j:Nat){a b:Expr}{px pt pt2:Pos}{k2:Nat}(hc:X.calm=true)(hN:X.N.Nodup)(ha:PFA X [a,b] gl)(hij:i≠j)(hi:X.N[i]?=some x:=by rfl)(hj:X.N[j]?=some y:=by rfl)(hx:X.env.scope.names.lookup x=some .local:=by rfl)(hy:X.env.scope.names.lookup y=some .local:=by rfl)(hw:swappedStores [.Tuple [.Name x px,.Name y py] kt pt] (.Tuple [a,b] k2 pt2) X.env=pure (some [x,y]):=by rfl)(hs:swapsWithSole [.Tuple [.Name x px,.Name y py] kt pt] (.Tuple [a,b] k2 pt2) pos.line X.env=pure false:=by rfl):
  PSF X (.Assign [.Tuple [.Name x px,.Name y py] kt pt] (.Tuple [a,b] k2 pt2) pos) (λρ=>(gl ρ).out ρ λds=>(qM [i,j] ds ρ).out ρ .nx):=λG₀ H₀ pins s σ H D I h=>by
 refine Jn hc hN hi hj hij hx hy ha hw hs pins s σ H D I ?_;obtain⟨G,ρ,sr,h⟩:=h;dsimp only at h;refine⟨G,ρ,sr.e,?_⟩;cases q:gl ρ with
 |ok ds=>
  rw[q]at h;intro vs G' H' u r;cases r with
  |nil=>exact h.elim
  |cons r1 t1=>
   cases t1 with
   |nil=>exact h.elim
   |cons r2 t2=>
    cases t2 with
    |nil=>exact⟨_,_,rfl,h _ G' H' (((sr.ups u).set r1 i).set r2 j)⟩
    |cons _ _=>exact h.elim
 |ex C=>rw[q]at h;exact Exx.of sr h
 |no=>rw[q]at h;exact h
def xQ{np cp:Pos}{bm:List Value}{B newId initId:String}(Oc:OwnCls x C bm newId X.mg X.base)(FB:ExcBaseFacts B newId initId bm)(hh:X.A.handled=none)(hg:Gl X x)(ha:PFA X [e] gl)(hdb:(x==("__debug__":Str))=false:=by decide)(hs:starEach [e] X.env=(false,eval e X.env)::starEach [] X.env:=by rfl)(hz:∀ρ ds,gl ρ=.ok ds->ds.length<=1:=by intro _ _ z;first|(cases z;decide)|skip):
  PSF X (.Raise (some (.Call (.Name x np) [e] [] cp)) none pos) (λρ=>(gl ρ).out ρ λ_=>.ex C ρ):=λG₀ H₀ pins s σ H D I h=>by
 obtain⟨G,ρ,sr,h⟩:=h;dsimp only at h;obtain⟨tl,N,nm,qn,bs,hdct,sn,sub,ab,col,dd,k0,k1,k2,k3,k5,mN,hC,hN,hni,T⟩:=Oc.obj;refine wpAny_Raise_call_subT (nm:=nm) (q:=qn) (N:=N) (bs:=bs) (hdct:=hdct) (sn:=sn) (sub:=sub) (ab:=ab) (col:=col) (dd:=dd) (k0:=k0) (k1:=k1) (k2:=k2) (k3:=k3) (k5:=k5)
  FB (T.hasType FB.hasBase) hh (by rw[hs];rfl) hni (mi I hg Oc.bound ⟨rfl,?_⟩ hdb);have t:tAF X gl σ H (λvs H1=>vs.length<=sizeLine/\∃G1,Up G H G1 H1/\jM X G₀ H₀ D (.ex C ρ)):=by
  refine⟨G,ρ,sr.e,?_⟩;cases q:gl ρ with
  |ok ds=>rw[q]at h;intro vs G1 H1 u r;exact⟨by rw[r.length];exact Nat.le_trans (hz ρ ds q) (by decide),G1,u,h⟩
  |ex C'=>rw[q]at h;exact Exx.of sr h
  |no=>rw[q]at h;exact h
 have hA:=ha cp pins s σ H _ I t;rw[hs]at hA⊢;refine Calls.evalArgs_plain (wpAny_mono hA (λvs s₂ q=>?_) λ_ _ y=>y);obtain⟨vs',H1,I1,r,hz,G1,u,h⟩:=q;exact⟨rfl,by show vs.length<=sizeLine;rw[<- r.length];exact hz,I1.bk _ _ hC,hN.keeps I1.bk,T.keeps I1.bk,λh' a made=>h _ _ (.of (sr.ups u) ⟨pins,s₂,a,rfl,I1,.inl ⟨h',vs,made,rfl⟩⟩)⟩
end
section
def Inv.cx{A':Around}{calm':Bool}{pn' pins':List (Addr×Obj)}{xe':Value->Shared->Prop}(I:Inv X pins σ H s)(hp:∀p∈pn'++pins',p∈X.pn++pins)(hA:A'.frames=X.A.frames)(hd:calm'=true->A'.handled=none):
  Inv { X with A:=A',calm:=calm',pn:=pn',xe:=xe' } pins' σ H s:=
 ⟨⟨I.ok.mod,I.ok.kind,I.ok.glob,I.ok.blt,I.ok.above,I.ok.inj,I.ok.has,I.ok.cab,hd,hA.trans I.ok.frames,I.ok.stk,I.ok.exf,I.ok.bs,I.ok.bsz,I.ok.noex,I.ok.exfs,I.ok.funs,I.ok.frf,I.ok.tabs⟩,
  I.os,I.bare,I.base,I.loc,I.cell,I.free,I.freeC,λp q=>I.pin p (hp p q),I.hok,I.len⟩
end
noncomputable def Nj(gb gs:Ev->O)(f:Addr->Option Bool)(i:Nat):Ev->O:=λρ=>match gb ρ with
 |.ex C ρ'=>(match f C with
  |some true=>(match gs (ρ'.set i (some (.val (.exc C))))with
   |.nx ρ''=>.nx (ρ''.set i none)
   |.rt d=>.rt d
   |_=>.no)
  |_=>.no)
 |o=>o
structure Callee(P:Program)(w:World)(K:PySem.W.Frag)(mg:Str->Option Value)(base:Heap)(x:Str)(k n:Nat)(g:List D->R D):Prop where
 ex:∃f fd ps,FnF P w K mg base k f fd ps g/\mg x=some (.ref f)/\PySem.W.keepIn K (.ref f)=true/\Binds K fd ps []/\ps.length=n
def C8{n:Nat}{g:List D->R D}{e:Expr}{p:Pos}(c:Callee X.prog X.w X.K X.mg X.base x k n g)(hr:Room k X.A)(ha:PFA X (e::es) gl)(hg:Gl X x:=by rfl)(hdb:(x==("__debug__":Str))=false:=by decide)(he:starEach (e::es) X.env=(false,eval e X.env)::starEach es X.env:=by rfl)(hpl:(backTo pos (starEach es X.env)).any (·.1)=false:=by rfl):
  PF X (.Call (.Name x p) (e::es) [] pos) (λρ=>gl ρ>>=λds=>if ds.length=n then g ds else .no):=by
 obtain⟨f,fd,ps,F,hm,hk,hb,rfl⟩:=c.ex;exact Go F hr hg hm hk hb ha hdb he hpl
def FnF.to{w:World}{K:PySem.W.Frag}{mg:Str->Option Value}{base:Heap}{g g':List D->R D}(F:FnF P w K mg base k f fd ps g)(h:∀ds,ds.length=ps.length->g' ds=.no\/g ds=g' ds):FnF P w K mg base k f fd ps g':=by
 refine F.imp λvs H Q E ⟨hl,G,ds,sub,r,q⟩=>⟨hl,G,ds,sub,r,?_⟩
 rcases h ds (by rw[<- r.length];exact hl)with z|z;·rw[z]at q;exact q.elim
 ·rw[z];exact q
def Fun.callee{w:World}{K:PySem.W.Frag}{mg:Str->Option Value}{base:Heap}{g:List D->R D}(F:Fun K x x st f fd)(hm:mg x=some (.ref f))(ok:FnF P w K mg base k f fd ps g)(h:∀(kV doc pm:Value)(an:Option Addr)(cdv ct:Value)(us:List Value),us.length=ps.length->bindArgs (PySem.W.fnOf x x (eO st) (aZ st) (ah st) .none kV doc pm an cdv ct) ⟨us,[]⟩=pure (ps.zip us)):Callee P w K mg base x k ps.length g:=
 ⟨f,fd,ps,ok,hm,F.kp,F.binds h,rfl⟩
def iA{T:String}{f:String->Bool}(h:∀K:PySem.W.Frag,PySem.W.kitOne K (.type "NoneType") (.type T)=some (f "NoneType")/\PySem.W.kitOne K (.type "bool") (.type T)=some (f "bool")/\PySem.W.kitOne K (.type "int") (.type T)=some (f "int")/\
 PySem.W.kitOne K (.type "str") (.type T)=some (f "str")/\PySem.W.kitOne K (.type "tuple") (.type T)=some (f "tuple")/\PySem.W.kitOne K (.type "list") (.type T)=some (f "list")):
  ∀K:PySem.W.Frag,∀t∈["NoneType","bool","int","str","tuple","list"],PySem.W.kitOne K (.type t) (.type T)=some (f t):=λK t ht=>by
 obtain⟨h1,h2,h3,h4,h5,h6⟩:=h K;simp only[List.mem_cons,List.mem_nil_iff,or_false]at ht;rcases ht with rfl|rfl|rfl|rfl|rfl|rfl <;> assumption
noncomputable def isInt(t:String):Bool:=t=="int" || t=="bool"
section
variable{e:Expr}{ga:Ev->R D}{p p2:Pos}
def CN(hm:X.mg "isinstance"=none)(ha:PF X e ga)(hm2:X.mg "int"=none)(hg2:Gl X "int":=by rfl)(hg:Gl X "isinstance":=by rfl)(hs1:starEach [e,.Name "int" p2] X.env=(false,eval e X.env)::starEach [.Name "int" p2] X.env:=by rfl):PF X (.Call (.Name "isinstance" p) [e,.Name "int" p2] [] pos) (λρ=>ga ρ>>=kX isInt):=
 lZ isInt (iA λK=>⟨rfl,rfl,rfl,rfl,rfl,rfl⟩) hg hm hg2 hm2 PyProof.Rows.Boot.«int» ha hs1
def AF(hm:X.mg "isinstance"=none)(ha:PF X e ga)(hm2:X.mg "bool"=none)(hg2:Gl X "bool":=by rfl)(hg:Gl X "isinstance":=by rfl)(hs1:starEach [e,.Name "bool" p2] X.env=(false,eval e X.env)::starEach [.Name "bool" p2] X.env:=by rfl):PF X (.Call (.Name "isinstance" p) [e,.Name "bool" p2] [] pos) (λρ=>ga ρ>>=kX (·=="bool")):=
 lZ (·=="bool") (iA λK=>⟨rfl,rfl,rfl,rfl,rfl,rfl⟩) hg hm hg2 hm2 PyProof.Rows.Boot.«bool» ha hs1
def Cz(hm:X.mg "isinstance"=none)(ha:PF X e ga)(hm2:X.mg "str"=none)(hg2:Gl X "str":=by rfl)(hg:Gl X "isinstance":=by rfl)(hs1:starEach [e,.Name "str" p2] X.env=(false,eval e X.env)::starEach [.Name "str" p2] X.env:=by rfl):PF X (.Call (.Name "isinstance" p) [e,.Name "str" p2] [] pos) (λρ=>ga ρ>>=kX (·=="str")):=
 lZ (·=="str") (iA λK=>⟨rfl,rfl,rfl,rfl,rfl,rfl⟩) hg hm hg2 hm2 PyProof.Rows.Boot.«str» ha hs1
def xH(hm:X.mg "isinstance"=none)(ha:PF X e ga)(hm2:X.mg "tuple"=none)(hg2:Gl X "tuple":=by rfl)(hg:Gl X "isinstance":=by rfl)(hs1:starEach [e,.Name "tuple" p2] X.env=(false,eval e X.env)::starEach [.Name "tuple" p2] X.env:=by rfl):PF X (.Call (.Name "isinstance" p) [e,.Name "tuple" p2] [] pos) (λρ=>ga ρ>>=kX (·=="tuple")):=
 lZ (·=="tuple") (iA λK=>⟨rfl,rfl,rfl,rfl,rfl,rfl⟩) hg hm hg2 hm2 PyProof.Rows.Boot.«tuple» ha hs1
def zl(hm:X.mg "isinstance"=none)(ha:PF X e ga)(hm2:X.mg "list"=none)(hg2:Gl X "list":=by rfl)(hg:Gl X "isinstance":=by rfl)(hs1:starEach [e,.Name "list" p2] X.env=(false,eval e X.env)::starEach [.Name "list" p2] X.env:=by rfl):PF X (.Call (.Name "isinstance" p) [e,.Name "list" p2] [] pos) (λρ=>ga ρ>>=kX (·=="list")):=
 lZ (·=="list") (iA λK=>⟨rfl,rfl,rfl,rfl,rfl,rfl⟩) hg hm hg2 hm2 PyProof.Rows.Boot.«list» ha hs1
end
noncomputable def cF(ga:Ev->R D):Ev->O:=λρ=>(ga ρ).out ρ .rt
noncomputable def ao(g1 g2:Ev->O):Ev->O:=λρ=>(g1 ρ).seq g2
noncomputable def oIf(gt:Ev->R Bool)(g1 g2:Ev->O):Ev->O:=λρ=>(gt ρ).out ρ λk=>if k=true then g1 ρ else g2 ρ
noncomputable def oNx:Ev->O:=λρ=>.nx ρ
noncomputable def eU(i:Nat)(ga:Ev->R D):Ev->O:=λρ=>(ga ρ).out ρ λd=>.nx (ρ.set i (some (.val d)))
noncomputable def zu(i:Nat)(gl:Ev->R (List D)):Ev->O:=λρ=>(gl ρ).out ρ λds=>.nx (ρ.set i (some (.own ds)))
noncomputable def nh(ga:Ev->R D):Ev->O:=λρ=>(ga ρ).out ρ λ_=>.nx ρ
noncomputable def oN(asg:D->Ev->R Ev)(gi:Ev->R (List D))(g:Ev->O):Ev->O:=λρ=>(gi ρ).out ρ λitems=>cg asg g items ρ
noncomputable def lh(C:Addr)(gl:Ev->R (List D)):Ev->O:=λρ=>(gl ρ).out ρ λ_=>.ex C ρ
noncomputable def Oq(asg:D->Ev->R Ev)(ga:Ev->R D):Ev->O:=λρ=>(ga ρ).out ρ λd=>(asg d ρ).out ρ .nx
noncomputable def Bz(i:Nat)(g:Ev->O):Ev->O:=λρ=>g (frz i ρ)
noncomputable def ax{α β:Type}(f:α->R β)(ga:Ev->R α):Ev->R β:=λρ=>ga ρ>>=f
noncomputable def gOf(f:List D->Option D)(gl:Ev->R (List D)):Ev->R D:=λρ=>gl ρ>>=λds=>ofO (f ds)
noncomputable def ac(ga:Ev->R D)(gl:Ev->R (List D)):Ev->R (List D):=λρ=>ga ρ>>=λx=>gl ρ>>=λxs=>.ok (x::xs)
noncomputable def az(n:Nat)(g:List D->R D)(gl:Ev->R (List D)):Ev->R D:=λρ=>gl ρ>>=λds=>if ds.length=n then g ds else .no
noncomputable def cL(gl:Ev->R (List D)):Ev->R D:=λρ=>gl ρ>>=λds=>.ok (.lst false ds)
noncomputable def tj(gl:Ev->R (List D)):Ev->R (List D):=λρ=>gl ρ>>=λds=>if ds.length<=sizeLine then .ok ds else .no
noncomputable def gB2(f:D->D->Option D)(ga gb:Ev->R D):Ev->R Bool:=λρ=>g2 f ga gb ρ>>=asB
noncomputable def gB3(f f':D->D->Option D)(ga gb gc:Ev->R D):Ev->R Bool:=λρ=>g3 f f' ga gb gc ρ>>=asB
noncomputable def gBn(gt:Ev->R Bool):Ev->R Bool:=λρ=>gt ρ>>=λk=>.ok (!k)
noncomputable def fK(ga:Ev->R D):Ev->R (Option Int):=λρ=>ga ρ>>=λx=>asI x>>=λi=>.ok (some i)
noncomputable def va(T:String)(f:D->List D->Option D)(ga:Ev->R D)(gl:Ev->R (List D)):Ev->R D:=λρ=>ga ρ>>=λx=>if mf T x=true then gl ρ>>=λds=>ofO (f x ds)else .no
def Callee.mono{w:World}{K:PySem.W.Frag}{mg:Str->Option Value}{base:Heap}{n:Nat}{g:List D->R D}(c:Callee P w K mg base x k n g)(k':Nat)(h:k<=k':=by decide):Callee P w K mg base x k' n g:=by obtain⟨f,fd,ps,F,hm,hk,hb,e⟩:=c.ex;exact⟨f,fd,ps,{ F with run:=λA outer s H args us vs Q E hr=>F.run A outer s H args us vs Q E (hr.mono h) },hm,hk,hb,e⟩
section
variable{cT body sa sb:List Stmt}{e a b c o tg:Expr}{gs1 gs2:Ev->O}{ga gc:Ev->R D}{gt:Ev->R Bool}{p p2:Pos}
def af(h1:PSF X st gs1)(h2:lV X cT gs2):lV X (st::cT) (ao gs1 gs2):=xu h1 h2
def am:lV X [] oNx:=Ah
def bg(he:PF X e ga):PSF X (.Return (some e) pos) (cF ga):=Bn he
def jf(hc:PB X c gt)(ha:lV X sa gs1)(hb:lV X sb gs2):PSF X (.If c sa sb pos) (oIf gt gs1 gs2):=Gx hc ha hb
def Lr(i:Nat)(hN:X.N.Nodup)(he:PF X e ga)(hi:X.N[i]?=some x:=by rfl)(hx:Loc X.env.scope x:=by first|exact Or.inl rfl|exact Or.inr rfl)(hs:swapsWithSole [.Name x p] e pos.line X.env=pure false:=by rfl)(hw:swappedStores [.Name x p] e X.env=pure none:=by rfl)(hf:X.fn x=true\/X.env.scope.names.lookup x=some .local:=by first|exact .inl rfl|exact .inr rfl):
  PSF X (.Assign [.Name x p] e pos) (eU i ga):=Dt i hN he hi hx hs hw hf
def xP(i:Nat)(hN:X.N.Nodup)(he:PFL X e gl)(hi:X.N[i]?=some x:=by rfl)(hx:Loc X.env.scope x:=by first|exact Or.inl rfl|exact Or.inr rfl)(hs:swapsWithSole [.Name x p] e pos.line X.env=pure false:=by rfl)(hw:swappedStores [.Name x p] e X.env=pure none:=by rfl)(hf:X.fn x=true\/X.env.scope.names.lookup x=some .local:=by first|exact .inl rfl|exact .inr rfl):
  PSF X (.Assign [.Name x p] e pos) (zu i gl):=B8 i hN he hi hx hs hw hf
def jY(he:PF X e ga)(hs:swapsWith e none pos.line X.env=pure false:=by rfl):PSF X (.Expr e pos) (nh ga):=zF he hs
def kM(hp:PassesOwn (model X.prog X.w) X.A X.env X.xe)(hcalm:X.calm=true)(hi:PIF X tg iter gi)(hg:PGF X tg asg)(hb:lV X body g)(hs:∀x,foldedSetIterable iter X.env x=pure x:=by intro _;rfl)(hn:∀d ρ C,asg d ρ≠.ex C:=by intro _ _ _ z;cases z):PSF X (.For tg iter body [] pos) (oN asg gi g):=Bl hp hcalm hi hg hb hs hn
def dw(hg:Gl X "len")(hm:X.mg "len"=none)(ha:PFA X [e] gl)(he:starEach [e] X.env=[(false,eval e X.env)]:=by rfl):PF X (.Call (.Name "len" p) [e] [] pos) (gOf fD gl):=HU hg hm ha he
def FQ(hc:X.calm=true)(hg:Gl X "all")(hm:X.mg "all"=none)(ha:PFA X [e] gl)(he:starEach [e] X.env=[(false,eval e X.env)]:=by rfl):PF X (.Call (.Name "all" p) [e] [] pos) (gOf BR gl):=Kb hc hg hm ha he
def aa(ha:PF X e ga)(hr:PFA X es gl)(hs:starEach (e::es) X.env=(false,eval e X.env)::starEach es X.env:=by rfl):PFA X (e::es) (ac ga gl):=Cc ha hr hs
def au{n:Nat}{f:List D->R D}(c:Callee X.prog X.w X.K X.mg X.base x k n f)(hr:Room k X.A)(ha:PFA X (e::es) gl)(hg:Gl X x:=by rfl)(hdb:(x==("__debug__":Str))=false:=by decide)(he:starEach (e::es) X.env=(false,eval e X.env)::starEach es X.env:=by rfl)(hpl:(backTo pos (starEach es X.env)).any (·.1)=false:=by rfl):
  PF X (.Call (.Name x p) (e::es) [] pos) (az n f gl):=C8 c hr ha hg hdb he hpl
def kZ{gens:List Comprehension}{sc:Scope}(h:PFL X (.ListComp e gens sc pos) gl):PF X (.ListComp e gens sc pos) (cL gl):=wE h
def rH(h:PFL X (.List es pos) gl):PF X (.List es pos) (cL gl):=wE h
def kK(h:PFA X es gl):PFL X (.List es pos) (tj gl):=Gj h
def cH(h:PFA X es gl):PF X (.Tuple es k pos) (ax mkT gl):=Ks h
def vj(ha:PF X a ga):PF X (.UnaryOp .USub a pos) (ax wZ ga):=J3 ha
def Fk(hm:X.mg "isinstance"=none)(ha:PF X e ga)(hm2:X.mg "int"=none)(hg2:Gl X "int":=by rfl)(hg:Gl X "isinstance":=by rfl)(hs1:starEach [e,.Name "int" p2] X.env=(false,eval e X.env)::starEach [.Name "int" p2] X.env:=by rfl):PF X (.Call (.Name "isinstance" p) [e,.Name "int" p2] [] pos) (ax (kX isInt) ga):=CN hm ha hm2 hg2 hg hs1
def BD(hm:X.mg "isinstance"=none)(ha:PF X e ga)(hm2:X.mg "bool"=none)(hg2:Gl X "bool":=by rfl)(hg:Gl X "isinstance":=by rfl)(hs1:starEach [e,.Name "bool" p2] X.env=(false,eval e X.env)::starEach [.Name "bool" p2] X.env:=by rfl):PF X (.Call (.Name "isinstance" p) [e,.Name "bool" p2] [] pos) (ax (kX (·=="bool")) ga):=AF hm ha hm2 hg2 hg hs1
def Fe(hm:X.mg "isinstance"=none)(ha:PF X e ga)(hm2:X.mg "str"=none)(hg2:Gl X "str":=by rfl)(hg:Gl X "isinstance":=by rfl)(hs1:starEach [e,.Name "str" p2] X.env=(false,eval e X.env)::starEach [.Name "str" p2] X.env:=by rfl):PF X (.Call (.Name "isinstance" p) [e,.Name "str" p2] [] pos) (ax (kX (·=="str")) ga):=Cz hm ha hm2 hg2 hg hs1
def jZ(hm:X.mg "isinstance"=none)(ha:PF X e ga)(hm2:X.mg "tuple"=none)(hg2:Gl X "tuple":=by rfl)(hg:Gl X "isinstance":=by rfl)(hs1:starEach [e,.Name "tuple" p2] X.env=(false,eval e X.env)::starEach [.Name "tuple" p2] X.env:=by rfl):PF X (.Call (.Name "isinstance" p) [e,.Name "tuple" p2] [] pos) (ax (kX (·=="tuple")) ga):=xH hm ha hm2 hg2 hg hs1
def eB(h:PF X e ga):PFO X (some e) (fK ga):=BI h
def Cm(ha:PF X a ga)(hb:PF X b gb):PB X (.Compare a [.Lt] [b] pos) (gB2 ltD ga gb):=Mn ha hb
def Lg(ha:PF X a ga)(hb:PF X b gb):PB X (.Compare a [.LtE] [b] pos) (gB2 leD ga gb):=L3 ha hb
def zG(ha:PF X a ga)(hb:PF X b gb):PB X (.Compare a [.Gt] [b] pos) (gB2 gtD ga gb):=K7 ha hb
def sL(hu:X.A.units+64<cLine)(ha:PF X a ga)(hb:PF X b gb):PB X (.Compare a [.Eq] [b] pos) (gB2 eqF ga gb):=LX hu ha hb
def ml(hu:X.A.units+64<cLine)(ha:PF X a ga)(hb:PF X b gb):PB X (.Compare a [.NotEq] [b] pos) (gB2 neF ga gb):=Ln hu ha hb
def Lk(ha:PF X a ga)(hb:PF X b gb):PB X (.Compare a [.Is] [b] pos) (gB2 isF ga gb):=Mj ha hb
def GG(ha:PF X a ga)(hb:PF X b gb)(hc:PF X c gc)(hm:lastMarks [.LtE,.LtE] [b,c]=false:=by with_unfolding_all rfl):PB X (.Compare a [.LtE,.LtE] [b,c] pos) (gB3 leD leD ga gb gc):=EM ha hb hc hm
def gO(ha:PB X a gt):PB X (.UnaryOp .Not a pos) (gBn gt):=HQ ha
def gT(h:PF X (.Call a es [] pos) ga):PB X (.Call a es [] pos) (ax lG ga):=AX h
def oh{op:BoolOp}(h:PBW X (.BoolOp op es pos) gt):PB X (.BoolOp op es pos) gt:=λpins s σ H Q I q=>h _ pins s σ H Q I q
def Db{ap cp:Pos}(ho:PF X o ga)(ha:PFA X [e] gl)(hbase:attributeBase o "rstrip" X.env (eval o X.env)=eval o X.env:=by rfl)(hfew:((backTo cp (starEach [e] X.env)).all (λx=>!x.1) && (backToKw cp (keywordEach [] X.env)).all (λx=>x.1.isSome)
 && decide ([e].length+([]:List Keyword).length+(if ([]:List Keyword).isEmpty then 0 else 1)<30))=true:=by rfl)(hline:(ap.endLine==cp.line)=true:=by rfl)(hs:starEach [e] X.env=(false,eval e X.env)::starEach [] X.env:=by rfl):
  PF X (.Call (.Attribute o "rstrip" ap) [e] [] cp) (va "str" kG ga gl):=AQ ho ha hbase hfew hline hs
def fc(ha:PF X a ga):PIF X tg a (ax bI ga):=GA ha
def qC(hg:Gl X "range")(hm:X.mg "range"=none)(ha:PFA X [a] gl)(hs:starEach [a] X.env=[(false,eval a X.env)]:=by rfl):PIF X tg (.Call (.Name "range" p) [a] [] pos) (ax cI gl):=xn hg hm ha hs
end
@[simp] theorem R.ok_out{α:Type}(a:α)(ρ:Ev)(k:α->O):(R.ok a).out ρ k=k a:=rfl
@[simp] theorem R.ex_out{α:Type}(C:Addr)(ρ:Ev)(k:α->O):(R.ex C:R α).out ρ k=.ex C ρ:=rfl
@[simp] theorem mB{α:Type}(a:α):fw (R.ok a)=R.ok a:=rfl
theorem zQz9{gt:Ev->R Bool}{ge:Ev->R D}(p:D->Bool)(h:D->D)(tl:Ev):∀(ds:List D)(a:Option Sl),(∀d∈ds,gt (some (.val d)::tl)=.ok (p d)/\(p d=true->ge (some (.val d)::tl)=.ok (h d)))->gW gt ge ds (a::tl)=.ok ((ds.filter p).map h)
 | [],a,_=>rfl
 |d::ds,a,H=>by
  have ih:=zQz9 p h tl ds (some (.val d)) λx m=>H x (List.mem_cons_of_mem _ m);obtain⟨e1,e2⟩:=H d (List.mem_cons_self ..);show(fw (gt (some (.val d)::tl))>>=λk=>if k=true then fw (ge (some (.val d)::tl))>>=λx=>gW gt ge ds (some (.val d)::tl)>>=λxs=>.ok (x::xs)else gW gt ge ds (some (.val d)::tl))=_;rw[e1,mB,R.ok_bind,ih];cases q:p d with
  |true=>rw[if_pos rfl,e2 q,mB,R.ok_bind,R.ok_bind,List.filter_cons_of_pos q];rfl
  |false=>rw[if_neg Bool.false_ne_true,List.filter_cons_of_neg (by rw[q];exact Bool.false_ne_true)]
def nN{gt:Ev->R Bool}(h:D->D)(tl:Ev)(ds:List D)(a:Option Sl)(H:∀d∈ds,gt (some (.val d)::tl)=.ok true/\ge (some (.val d)::tl)=.ok (h d)):gW gt ge ds (a::tl)=.ok (ds.map h):=by rw[zQz9 (λ_=>true) h tl ds a λd m=>⟨(H d m).1,λ_=>(H d m).2⟩,List.filter_eq_self.2 λ_ _=>rfl]
theorem vy(f:D->Bool):∀ds:List D,Bf (ds.map λd=>.bl (f d))=some (ds.map f)
 | []=>rfl
 |d::ds=>by
  have ih:=vy f ds;unfold Bf
  first|(rw[ih];rfl)|(simp only[ih];rfl)|simp[ih]
def qw(f:D->Bool)(k:Bool)(ds:List D):BR [.lst k (ds.map λd=>.bl (f d))]=some (.bl (ds.all f)):=by show(Bf (ds.map λd=>.bl (f d))).map _=_;rw[vy];show some (D.bl ((ds.map f).all id))=_;rw[List.all_map];rfl
def yA(a b:Nat):(!decide (([b]:List Nat)<[a]))=decide (a<=b):=by
 have:(([b]:List Nat)<[a]) ↔ b<a:=by
  constructor
  ·intro h;cases h with
   |rel h=>exact h
   |cons h=>cases h
  ·intro h;exact .rel h
 by_cases h:a<=b
 ·have h2 : ¬ ([b]:List Nat)<[a]:=λq=>by have:=this.1 q;omega
  simp[h,h2]
 ·have h2:=this.2 (by omega);simp[h,h2]
def gz{N':List Str}(hk:scope.kind=.function:=by rfl)(h1:(∀y∈scope.names,y.2≠.cell)/\(∀y∈scope.names,y.2=.local->scope.names.lookup y.1=some .local)/\scope.names.lookup x=some .local/\(∀y∈scope.names,y.2=.free->y.1∈N'.tail)/\N'.Nodup/\N'[0]?=some x/\
 ∀y∈N'.tail,scope.names.lookup y=some .free/\(y,NameKind.free)∈scope.names:=by decide +kernel)(h2:N'.tail.map X.env.kindOf=N'.tail.map λ_=>some NameKind.cell:=by rfl)(h3:N'.tail=ix.map (λ(i:Nat)=>X.N.getD i Str.empty):=by rfl)(h4:ix.all (λi=>decide (i<X.N.length))=true:=by rfl):CompOk X scope x N' ix:=by
 obtain⟨a,b,c,d,e,f,g⟩:=h1;refine⟨hk,a,b,c,λy hy h=>?_,e,f,h3,λi hi=>?_,g⟩;·exact List.map_inj_left.1 h2 _ (d y hy h)
 ·exact of_decide_eq_true (List.all_eq_true.1 h4 i hi)
def rd0(d:D)(ρ:Ev):rdV (some (.val d)::ρ) 0=.ok d:=rfl
def rd1(a0:Option Sl)(d:D)(ρ:Ev):rdV (a0::some (.val d)::ρ) 1=.ok d:=rfl
def rd2(a0 a1:Option Sl)(d:D)(ρ:Ev):rdV (a0::a1::some (.val d)::ρ) 2=.ok d:=rfl
def rd3(a0 a1 a2:Option Sl)(d:D)(ρ:Ev):rdV (a0::a1::a2::some (.val d)::ρ) 3=.ok d:=rfl
def rd4(a0 a1 a2 a3:Option Sl)(d:D)(ρ:Ev):rdV (a0::a1::a2::a3::some (.val d)::ρ) 4=.ok d:=rfl
def rd5(a0 a1 a2 a3 a4:Option Sl)(d:D)(ρ:Ev):rdV (a0::a1::a2::a3::a4::some (.val d)::ρ) 5=.ok d:=rfl
def rd6(a0 a1 a2 a3 a4 a5:Option Sl)(d:D)(ρ:Ev):rdV (a0::a1::a2::a3::a4::a5::some (.val d)::ρ) 6=.ok d:=rfl
section
variable{f:List D->R D}{ga gc gd:Ev->R D}
def D6:az 1 f (ac ga λ_=>.ok []) ρ=ga ρ>>=λx=>f [x]:=by unfold az ac;cases ga ρ <;> rfl
def AA:az 2 f (ac ga (ac gb λ_=>.ok [])) ρ=ga ρ>>=λx=>gb ρ>>=λy=>f [x,y]:=by
 unfold az ac;cases ga ρ <;> try rfl
 cases gb ρ <;> rfl
def zT:az 3 f (ac ga (ac gb (ac gc λ_=>.ok []))) ρ=ga ρ>>=λx=>gb ρ>>=λy=>gc ρ>>=λz=>f [x,y,z]:=by
 unfold az ac;cases ga ρ <;> try rfl
 cases gb ρ <;> try rfl
 cases gc ρ <;> rfl
end
noncomputable def At(N:List Str)(i:Nat)(x:Str):Prop:=N[i]?=some x
def at0{l:List Str}:At (x::l) 0 x:=rfl
def at1{l:List Str}:At (y0::x::l) 1 x:=rfl
def at2{l:List Str}:At (y0::y1::x::l) 2 x:=rfl
def at3{l:List Str}:At (y0::y1::y2::x::l) 3 x:=rfl
def at4{l:List Str}:At (y0::y1::y2::y3::x::l) 4 x:=rfl
def at5{l:List Str}:At (y0::y1::y2::y3::y4::x::l) 5 x:=rfl
def at6{l:List Str}{y5:Str}:At (y0::y1::y2::y3::y4::y5::x::l) 6 x:=rfl
def at7{l:List Str}{y5 y6:Str}:At (y0::y1::y2::y3::y4::y5::y6::x::l) 7 x:=rfl
def at8{l:List Str}{y5 y6 y7:Str}:At (y0::y1::y2::y3::y4::y5::y6::y7::x::l) 8 x:=rfl
def at9{l:List Str}{y5 y6 y7 y8:Str}:At (y0::y1::y2::y3::y4::y5::y6::y7::y8::x::l) 9 x:=rfl
def DY{l:List Str}{y5 y6 y7 y8 y9:Str}:At (y0::y1::y2::y3::y4::y5::y6::y7::y8::y9::x::l) 10 x:=rfl
def M0{l:List Str}{y5 y6 y7 y8 y9 y10:Str}:At (y0::y1::y2::y3::y4::y5::y6::y7::y8::y9::y10::x::l) 11 x:=rfl
section
variable{N:List Str}
def ae{w:World}{K:PySem.W.Frag}{mg:Str->Option Value}{base:Heap}{A:Around}{outer:List Env}{E:XK}(h:At N i x)(hv:Vis (hU CX P w K mg base N qual scope f cdv A outer s H E).env.scope x:=by first|exact Or.inl rfl|exact Or.inr (Or.inl rfl)|exact Or.inr (Or.inr rfl))(hd:(x==("__debug__":Str))=false:=by decide)(hcd:(x==("__classdict__":Str))=false:=by decide):PF (hU CX P w K mg base N qual scope f cdv A outer s H E) (.Name x pos) (λρ=>rdV ρ i):=Ea i h hv hd hcd
def bZ{s₂:Shared}{H₂:Hp}(h:At N i x)(hv:Vis (bQ X N scope C s₂ H₂ fp).env.scope x:=by first|exact Or.inl rfl|exact Or.inr (Or.inl rfl)|exact Or.inr (Or.inr rfl))(hd:(x==("__debug__":Str))=false:=by decide)(hcd:(x==("__classdict__":Str))=false:=by decide):PF (bQ X N scope C s₂ H₂ fp) (.Name x pos) (λρ=>rdV ρ i):=Ea i h hv hd hcd
def cf{w:World}{K:PySem.W.Frag}{mg:Str->Option Value}{base:Heap}{A:Around}{outer:List Env}{E:XK}{e:Expr}{p:Pos}{ga:Ev->R D}(h:At N i x)(hN:N.Nodup)(he:PF (hU CX P w K mg base N qual scope f cdv A outer s H E) e ga)(hx:Loc (hU CX P w K mg base N qual scope f cdv A outer s H E).env.scope x:=by first|exact Or.inl rfl|exact Or.inr rfl)(hs:swapsWithSole [.Name x p] e pos.line (hU CX P w K mg base N qual scope f cdv A outer s H E).env=pure false:=by rfl)(hw:swappedStores [.Name x p] e (hU CX P w K mg base N qual scope f cdv A outer s H E).env=pure none:=by rfl)(hf:(hU CX P w K mg base N qual scope f cdv A outer s H E).fn x=true\/(hU CX P w K mg base N qual scope f cdv A outer s H E).env.scope.names.lookup x=some .local:=by first|exact .inl rfl|exact .inr rfl):
  PSF (hU CX P w K mg base N qual scope f cdv A outer s H E) (.Assign [.Name x p] e pos) (eU i ga):=Lr i hN he h hx hs hw hf
end
def Fv{ga:Ev->R D}(h:ac ga (λ_=>.ok []) ρ=.ok ds):ds.length<=1:=by
 unfold ac at h;cases e:ga ρ with
 |ok x=>rw[e]at h;cases h;exact Nat.le_refl _
 |ex C=>rw[e]at h;cases h
 |no=>rw[e]at h;cases h
structure Ref(x:Str)(C:Addr)(mg:Str->Option Value)(base:Heap):Prop where
 ex:∃bm B newId initId,OwnCls x C bm newId mg base/\ExcBaseFacts B newId initId bm
def kr{e:Expr}{ga:Ev->R D}{np cp:Pos}(r:Ref x C X.mg X.base)(hh:X.A.handled=none)(ha:PF X e ga)(hg:Gl X x:=by rfl)(hdb:(x==("__debug__":Str))=false:=by decide)(hs:starEach [e] X.env=(false,eval e X.env)::starEach [] X.env:=by rfl):
  PSF X (.Raise (some (.Call (.Name x np) [e] [] cp)) none pos) (lh C (ac ga λ_=>.ok [])):=by
 obtain⟨bm,B,newId,initId,Oc,FB⟩:=r.ex;exact xQ Oc FB hh hg (aa ha ad hs) hdb hs (λρ ds h=>Fv h)
def Un.but{fs:List Addr}(hs:Heap.SameBut C h h'):Un fs [C] H H h h':=by have ne:∀b,b∉[C]->b≠C:=λb hb z=>hb (by rw[z];exact List.mem_singleton.2 rfl);exact⟨λb o e _ _ hx=>(hs.2 b (ne b hx)).trans e,λb o e _ _ hx=>⟨o.slots,(hs.2 b (ne b hx)).trans e⟩,λ_ _ _ n _=>n,λb o e hx=>⟨o,(hs.2 b (ne b hx)).trans e⟩,λ_ _ e=>e,λ_ _ _ e=>e,λ_ ps e=>⟨#[],by rw[Array.append_empty];exact e⟩⟩
section
variable{elt:Expr}{ifs:List Expr}{px:Pos}{N':List Str}{gt:Ev->R Bool}
def AH{n:Nat}(i:Nat){spos:Pos}(hN:X.N.Nodup)(ok:CompOkT X scope n N' ix)(hcalm:X.calm=true)(hg:∀C s₂ H₂ fp,PGF (bQ X N' scope C s₂ H₂ fp) tgt asg)(hown:∀d ρ ρ',asg d ρ=.ok ρ'->(NoOwn ρ)->NoOwn ρ')(hi:PIF X tgt iter gi)(he:∀C s₂ H₂ fp,PF (bQ X N' scope C s₂ H₂ fp) elt ge)(ht:∀C s₂ H₂ fp,PTs (bQ X N' scope C s₂ H₂ fp) ifs gt)(hni:X.N[i]?=some y:=by rfl)(hy:X.env.scope.names.lookup y=some .local:=by rfl)(hs:∀x,foldedSetIterable iter X.env x=pure x:=by intro _;rfl)(hsw:swapsWith (.ListComp elt [⟨tgt,iter,ifs,0⟩] scope pos) (some (.Name y py)) spos.line X.env=pure true:=by rfl){D:Ends}(I:Inv X pins σ H s)(sE:StE X.K G H σ ρ)(hq:(oT n asg gi ix gt ge ρ).post (ya X.K G H λv H1=>D.nx (σ.set i (some v)) H1) (Exx X σ G H)):
  wpAny (model X.prog X.w) X.A (exec (.Assign [.Name y py] (.ListComp elt [⟨tgt,iter,ifs,0⟩] scope pos) spos) X.env) (SP X pins D) X.xe s:=by
 rw[exec_Assign_Name_used _ _ _ _ hsw];refine wpAny_bind (wpAny_standAt (wpAny_bind ?_));refine wpAny_bind (wpAny_mono (wpAny_comprehension_free rfl hs (jU λz hz hz2=>I.ok.has z.1 (.inl (ok.fr z hz hz2))) ok.kind ok.names ?_) (λ_ s' hq=>wpAny_pure (wpAny_pure hq)) λ_ _ e=>e);have t:tG X (λG J items=>ItOk X.K G J items) gi σ H (λJ H1=>∃G1 items,Up G H G1 H1/\StE X.K G1 H1 σ ρ/\ItOk X.K G1 J items/\(gX asg gt ge items (gP n ix ρ)>>=λds=>if ds.length<=sizeLine then R.ok ds else .no).post (ya X.K G H λv H1=>D.nx (σ.set i (some v)) H1) (Exx X σ G H)):=by
  refine⟨G,ρ,sE,?_⟩;unfold oT at hq;cases e:gi ρ with
  |ok items=>rw[e]at hq;exact λJ G1 H1 u r=>⟨G1,items,u,sE.up u,r,hq⟩
  |ex C=>rw[e]at hq;exact hq
  |no=>rw[e]at hq;exact hq
 refine thn (hi pins s σ H _ I t) λv s1 h1=>thn h1 λitv s2 h2=>?_;obtain⟨it,fp,tn,J,H2,e,I2,T,st2,f2,G2,items,u2,sE2,iok,h2⟩:=h2;subst e;have h2':(gX asg gt ge items (gP n ix ρ)>>=λds=>if ds.length<=sizeLine then R.ok ds else .no).post (ya X.K G2 H2 λv H1=>D.nx (σ.set i (some v)) H1) (Exx X σ G2 H2):=
  h2.mono (λds q l vs G' H' u hl r=>q l vs G' H' (u2.trans u) hl r) λC q=>q.up u2;refine nG ok hcalm hg hown he ht I2 T st2 f2 sE2 iok h2' ?_;intro Dd C s' m vs G' H' up hd hCD _ q hm hos hb hC hCl un hok;have I3:=I2.call' hos un hok hb λb hb'=>by
  obtain⟨f0,f1,f2',f3,f4,f5⟩:=f2 b hb';exact⟨f3,f1,f4,f5⟩
 have lc:=Nat.ne_of_lt (Nat.lt_of_lt_of_le I2.lt hCl);have cc:∀z c,X.env.cells.lookup z=some c->c≠C:=λz c e=>by obtain⟨v,q⟩:=I2.cell z c e;exact Nat.ne_of_lt (Nat.lt_of_lt_of_le q.lt hCl)
 refine wpAny_assign_Name (rR I3 hN hni (.inl hy) (v:=.ref Dd) rfl (λs'' I4 ⟨a,hsb,ha⟩=>?_) (.inr hy));have na:C≠a:=by
  rcases ha with rfl|ha;·exact lc.symm
  ·exact(cc _ _ ha).symm
 refine⟨m,hm.sameBut hsb na,λh' hs'=>?_⟩;have I5:=I4.call' (s':={ s'' with heap:=h' }) rfl (Un.but hs') (I4.hok.sameBut (λb o hbc e=>(hs'.2 b hbc).trans e) (by rw[aw hCD];exact hC)) I4.bare λb hb'=>by rw[List.mem_singleton.1 hb'];exact⟨.inr (Nat.le_trans I2.sz hCl),lc.symm,cc,λp hp z=>Nat.lt_irrefl _ (Nat.lt_of_lt_of_le (z▸Heap.lt_size (I2.pin p hp).1) hCl)⟩
 exact⟨_,_,I5,q⟩
def Br{n:Nat}(i:Nat){spos:Pos}(hN:X.N.Nodup)(ok:CompOkT X scope n N' ix)(hcalm:X.calm=true)(hg:∀C s₂ H₂ fp,PGF (bQ X N' scope C s₂ H₂ fp) tgt asg)(hown:∀d ρ ρ',asg d ρ=.ok ρ'->(NoOwn ρ)->NoOwn ρ')(hi:PIF X tgt iter gi)(he:∀C s₂ H₂ fp,PF (bQ X N' scope C s₂ H₂ fp) elt ge)(ht:∀C s₂ H₂ fp,PTs (bQ X N' scope C s₂ H₂ fp) ifs gt)(hni:X.N[i]?=some y:=by rfl)(hy:X.env.scope.names.lookup y=some .local:=by rfl)(hs:∀x,foldedSetIterable iter X.env x=pure x:=by intro _;rfl)(hsw:swapsWith (.ListComp elt [⟨tgt,iter,ifs,0⟩] scope pos) (some (.Name y py)) spos.line X.env=pure true:=by rfl):
  PSF X (.Assign [.Name y py] (.ListComp elt [⟨tgt,iter,ifs,0⟩] scope pos) spos) (zu i (oT n asg gi ix gt ge)):=λG₀ H₀ pins s σ H D I h=>by
 obtain⟨G,ρ,sr,h⟩:=h;have h:jM X G₀ H₀ D ((oT n asg gi ix gt ge ρ).out ρ λds=>.nx (ρ.set i (some (.own ds)))):=h;refine AH i hN ok hcalm hg hown hi he ht hni hy hs hsw I sr.e ?_;cases q:oT n asg gi ix gt ge ρ with
 |ok ds=>rw[q]at h;exact λl vs G' H' u hl r=>h _ G' _ ((sr.ups u).setOwn hl r i)
 |ex C=>rw[q]at h;exact Exx.of sr h
 |no=>rw[q]at h;exact h
def FG(i:Nat){spos:Pos}(hN:X.N.Nodup)(ok:CompOk X scope x N' ix)(hcalm:X.calm=true)(hi:PIF X (.Name x px) iter gi)(he:∀C s₂ H₂ fp,PF (bQ X N' scope C s₂ H₂ fp) elt ge)(ht:∀C s₂ H₂ fp,PTs (bQ X N' scope C s₂ H₂ fp) ifs gt)(hni:X.N[i]?=some y:=by rfl)(hy:X.env.scope.names.lookup y=some .local:=by rfl)(hs:∀x,foldedSetIterable iter X.env x=pure x:=by intro _;rfl)(hsw:swapsWith (.ListComp elt [⟨.Name x px,iter,ifs,0⟩] scope pos) (some (.Name y py)) spos.line X.env=pure true:=by rfl):
  PSF X (.Assign [.Name y py] (.ListComp elt [⟨.Name x px,iter,ifs,0⟩] scope pos) spos) (zu i (ib gi ix gt ge)):=
 Br i hN ok.t hcalm (λC s₂ H₂ fp=>di 0 ok.nd ok.hd (.inl (lookup_relabel_local ok.loc)) (.inr (lookup_relabel_local ok.loc))) wJ hi he ht hni hy hs hsw
end
noncomputable def KN(i:Nat)(ga:Ev->R D):Ev->O:=λρ=>(ownAt ρ i).out ρ λds=>(ga ρ).out ρ λd=>(asL d).out ρ λes=>if ds.length+es.length<=sizeLine then .nx (ρ.set i (some (.own (ds++es))))else .no
noncomputable def JF(i:Nat)(ga:Ev->R D):Ev->O:=λρ=>(ownAt ρ i).out ρ λds=>(ga ρ).out ρ λd=>if ds.length<sizeLine then .nx (ρ.set i (some (.own (ds++[d]))))else .no
noncomputable def KL(i j:Nat)(gl:Ev->R (List D)):Ev->O:=λρ=>(gl ρ).out ρ λds=>(qM [i,j] ds ρ).out ρ .nx
section
variable{cT body:List Stmt}{e c o:Expr}{ga:Ev->R D}{p p2:Pos}
def wL(i:Nat){p ap cp:Pos}(he:PF X e ga)(hi:X.N[i]?=some x:=by rfl)(hv:Vis X.env.scope x:=by first|exact Or.inl rfl|exact Or.inr (Or.inl rfl))(hd:(x==("__debug__":Str))=false:=by decide)(hcd:(x==("__classdict__":Str))=false:=by decide)(hs1:starEach [e] X.env=(false,eval e X.env)::starEach [] X.env:=by rfl)(hbase:attributeBase (.Name x p) "extend" X.env (eval (.Name x p) X.env)=eval (.Name x p) X.env:=by rfl)(hfew:((backTo cp (starEach [e] X.env)).all (λx=>!x.1) && (backToKw cp (keywordEach [] X.env)).all (λx=>x.1.isSome)
 && decide ([e].length+([]:List Keyword).length+(if ([]:List Keyword).isEmpty then 0 else 1)<30))=true:=by rfl)(hline:(ap.endLine==cp.line)=true:=by rfl)(hs:swapsWith (.Call (.Attribute (.Name x p) "extend" ap) [e] [] cp) none pos.line X.env=pure false:=by rfl):
  PSF X (.Expr (.Call (.Attribute (.Name x p) "extend" ap) [e] [] cp) pos) (KN i ga):=vk i he hi hv hd hcd hs1 hbase hfew hline hs
def qG(i:Nat){p ap cp:Pos}(he:PF X e ga)(hi:X.N[i]?=some x:=by rfl)(hv:Vis X.env.scope x:=by first|exact Or.inl rfl|exact Or.inr (Or.inl rfl))(hd:(x==("__debug__":Str))=false:=by decide)(hcd:(x==("__classdict__":Str))=false:=by decide)(hs1:starEach [e] X.env=(false,eval e X.env)::starEach [] X.env:=by rfl)(hbase:attributeBase (.Name x p) "append" X.env (eval (.Name x p) X.env)=eval (.Name x p) X.env:=by rfl)(hfew:((backTo cp (starEach [e] X.env)).all (λx=>!x.1) && (backToKw cp (keywordEach [] X.env)).all (λx=>x.1.isSome)
 && decide ([e].length+([]:List Keyword).length+(if ([]:List Keyword).isEmpty then 0 else 1)<30))=true:=by rfl)(hline:(ap.endLine==cp.line)=true:=by rfl)(hs:swapsWith (.Call (.Attribute (.Name x p) "append" ap) [e] [] cp) none pos.line X.env=pure false:=by rfl):
  PSF X (.Expr (.Call (.Attribute (.Name x p) "append" ap) [e] [] cp) pos) (JF i ga):=uq i he hi hv hd hcd hs1 hbase hfew hline hs
def K5(i j:Nat){a b:Expr}{px pt pt2:Pos}{k2:Nat}(hc:X.calm=true)(hN:X.N.Nodup)(ha:PFA X [a,b] gl)(hij:i≠j:=by decide)(hi:X.N[i]?=some x:=by rfl)(hj:X.N[j]?=some y:=by rfl)(hx:X.env.scope.names.lookup x=some .local:=by rfl)(hy:X.env.scope.names.lookup y=some .local:=by rfl)(hw:swappedStores [.Tuple [.Name x px,.Name y py] kt pt] (.Tuple [a,b] k2 pt2) X.env=pure (some [x,y]):=by rfl)(hs:swapsWithSole [.Tuple [.Name x px,.Name y py] kt pt] (.Tuple [a,b] k2 pt2) pos.line X.env=pure false:=by rfl):
  PSF X (.Assign [.Tuple [.Name x px,.Name y py] kt pt] (.Tuple [a,b] k2 pt2) pos) (KL i j gl):=Cy i j hc hN ha hij hi hj hx hy hw hs
def GM(h:PF X (.Name x pos) ga):PB X (.Name x pos) (ax lG ga):=AX h
def uP{sts:List Stmt}(i:Nat)(h:lV X sts g):lV X sts (Bz i g):=yI i h
end
structure Errs(K:PySem.W.Frag)(mg:Str->Option Value)(rs:List Addr)(ts:List (Str×Addr)):Prop where
 na:∀t∈ts,mg t.1=some (.ref t.2)
 ec:∀r∈rs,ExcCls K r
 kit:∀r∈rs,∀t∈ts,PySem.W.kitOne K (.ref r) (.ref t.2)=some (r==t.2)
 ve:∀r∈rs,PySem.W.kitOne K (.ref r) (.type "ValueError")=some true
 le:∃L,mg "LineError"=some (.ref L)/\∀r∈rs,PySem.W.exmOne K (.ref r) (.ref L)=some true
noncomputable def fl:Nat->D->Bool
 | 0,_=>false
 |n+1,.tup xs=>xs.all (fl n)
 |_+1,.lst _ _=>false
 |_+1,.exc _=>false
 |_+1,.dct _ _=>false
 |_+1,_=>true
theorem zY{K:PySem.W.Frag}{G G2:Hp}{n:Nat}(ih:∀v d,fl n d=true->Rep K G v d->Rep K G2 v d):∀{vs:List V}{ds:List D},ds.all (fl n)=true->Reps K G vs ds->Reps K G2 vs ds
 |_,_,_,.nil=>.nil
 |_,_,h,.cons r t=>by rw[List.all_cons,Bool.and_eq_true]at h;exact .cons (ih _ _ h.1 r) (zY ih h.2 t)
theorem Aq{K:PySem.W.Frag}{G G2:Hp}(h:∀a o,G a=some o->(∀vs,o≠HO.lst vs)->G2 a=some o):∀(n:Nat)(v:V)(d:D),fl n d=true->Rep K G v d->Rep K G2 v d
 | 0,_,_,hf,_=>by simp[fl]at hf
 |n+1,v,d,hf,r=>by
  cases r with
  |non=>exact .non
  |bl b=>exact .bl b
  |int i=>exact .int i
  |str x hx=>exact .str x hx
  |tup hs t=>
   refine .tup ?_ (zY (λv d=>Aq h n v d) hf t);rcases hs with (q|⟨o,q⟩)|q;·exact .inl (.inl (h _ _ q λvs z=>by cases z))
   ·exact .inl (.inr ⟨o,h _ _ q λvs z=>by cases z⟩)
   ·exact .inr q
  |lst hs t=>simp[fl]at hf
  |fls hs t=>simp[fl]at hf
  |exc hs=>simp[fl]at hf
  |dct _ _ _=>simp[fl]at hf
def StR.peek{K:PySem.W.Frag}{H₀:Hp}(s:StR K G₀ H₀ G H σ ρ)(i:Nat):∃G1,StE K G1 H σ (L2.frz i ρ)/\
  ∀G' H',Up G1 H G' H'->∃G2,Up G H G2 H'/\∀a o,G' a=some o->(∀vs,o≠HO.lst vs)->G2 a=some o:=by
 obtain⟨G1,sr,e|⟨l,vs,hl,e⟩⟩:=s.frzTo i;·subst e;exact⟨G1,sr.e,λG' H' u=>⟨G',u,λa o q _=>q⟩⟩
 ·subst e;refine⟨_,sr.e,λG' H' u=>⟨λa=>if a=l then none else G' a,⟨λa o q=>?_,λa o q=>?_,u.hh,λa o q=>?_⟩,λa o q hq=>?_⟩⟩
  ·split at q;·cases q
   ·exact u.sub a o q
  ·have ne:a≠l:=λz=>by subst z;rw[hl]at q;cases q
   rw[if_neg ne];exact u.gg a o (by rw[aw ne];exact q)
  ·split at q;·cases q
   ·rename_i ne;rcases u.fr a o q with z|z;·rw[aw ne]at z;exact .inl z
    ·exact .inr z
  ·have ne:a≠l:=λz=>by subst z;have:=u.gg a _ aF;rw[q]at this;cases this;exact hq vs rfl
   show(if a=l then none else G' a)=some o;rw[if_neg ne];exact q
section
variable{cT body a b:List Stmt}{e c tg:Expr}{g1 g2:Ev->O}{ga:Ev->R D}{gt:Ev->R Bool}
noncomputable def MJ(i:Nat)(gt:Ev->R Bool)(g1 g2:Ev->O):Ev->O:=λρ=>(fw (gt (frz i ρ))).out ρ λk=>if k=true then g1 ρ else g2 ρ
def Lw(i:Nat)(hc:PB X c gt)(ha:lV X a g1)(hb:lV X b g2):PSF X (.If c a b pos) (MJ i gt g1 g2):=λG₀ H₀ pins s σ H D I h=>by
 refine Ft hc (ha G₀ H₀) (hb G₀ H₀) pins s σ H D I ?_;obtain⟨G,ρ,sr,h⟩:=h;have h:jM X G₀ H₀ D ((fw (gt (frz i ρ))).out ρ λk=>if k=true then g1 ρ else g2 ρ):=h;obtain⟨G1,st1,pk⟩:=sr.peek i;refine⟨G1,_,st1,?_⟩;cases q:gt (frz i ρ)with
 |ok k=>
  rw[q]at h;intro b' G' H' u r;subst r;obtain⟨G2,u2,_⟩:=pk G' H' u;cases b' with
  |true=>rw[if_pos rfl];exact⟨G2,ρ,sr.ups u2,by simpa[R.out,fw]using h⟩
  |false=>rw[if_neg Bool.false_ne_true];exact⟨G2,ρ,sr.ups u2,by simpa[R.out,fw]using h⟩
 |_=>rw[q]at h;exact h.elim
noncomputable def Bo(j i:Nat)(ga:Ev->R D):Ev->O:=λρ=>(fw (ga (frz j ρ))).out ρ λd=>if fl 10 d=true then .nx (ρ.set i (some (.val d)))else .no
def DF(j i:Nat){p:Pos}(hN:X.N.Nodup)(he:PF X e ga)(hi:X.N[i]?=some x:=by rfl)(hx:Loc X.env.scope x:=by first|exact Or.inl rfl|exact Or.inr rfl)(hs:swapsWithSole [.Name x p] e pos.line X.env=pure false:=by rfl)(hw:swappedStores [.Name x p] e X.env=pure none:=by rfl)(hf:X.fn x=true\/X.env.scope.names.lookup x=some .local:=by first|exact .inl rfl|exact .inr rfl):
  PSF X (.Assign [.Name x p] e pos) (Bo j i ga):=λG₀ H₀ pins s σ H D I h=>by
 refine kU he (jn hN hi hx hf) hs hw rfl pins s σ H D I ?_;obtain⟨G,ρ,sr,h⟩:=h;have h:jM X G₀ H₀ D ((fw (ga (frz j ρ))).out ρ λd=>if fl 10 d=true then .nx (ρ.set i (some (.val d)))else .no):=h;obtain⟨G1,st1,pk⟩:=sr.peek j;refine⟨G1,_,st1,?_⟩;cases q:ga (frz j ρ)with
 |ok d=>
  rw[q]at h;intro v G' H' u r;obtain⟨G2,u2,tr⟩:=pk G' H' u;have h:jM X G₀ H₀ D (if fl 10 d=true then .nx (ρ.set i (some (.val d)))else .no):=h;by_cases hfl:fl 10 d=true;·rw[if_pos hfl]at h;exact h _ G2 _ ((sr.ups u2).set (Aq tr 10 v d hfl r) i)
  ·rw[if_neg hfl]at h;exact h.elim
 |_=>rw[q]at h;exact h.elim
noncomputable def Mh(j i:Nat)(ga:Ev->R D):Ev->O:=λρ=>(ownAt ρ i).out ρ λds=>(fw (ga (frz j ρ))).out ρ λd=>if ds.length<sizeLine/\fl 10 d=true then .nx (ρ.set i (some (.own (ds++[d]))))else .no
noncomputable def Ci(i:Nat)(gk ga:Ev->R D):Ev->O:=λρ=>(ownAt ρ i).out ρ λds=>(fw (ga (frz i ρ))).out ρ λd=>(fw (gk (frz i ρ)>>=asI)).out ρ λk=>match ixN ds.length k with
 |some n=>if fl 10 d=true then .nx (ρ.set i (some (.own (ds.set n d))))else .no
 |none=>.no
def Dy(i:Nat){p tp:Pos}{ix:Expr}{gk:Ev->R D}(he:PF X e ga)(hk:PF X ix gk)(hi:X.N[i]?=some x:=by rfl)(hv:Vis X.env.scope x:=by first|exact Or.inl rfl|exact Or.inr (Or.inl rfl))(hd:(x==("__debug__":Str))=false:=by decide)(hcd:(x==("__classdict__":Str))=false:=by decide)(hs:swapsWithSole [.Subscript (.Name x p) ix tp] e pos.line X.env=pure false:=by rfl)(hw:swappedStores [.Subscript (.Name x p) ix tp] e X.env=pure none:=by rfl)(h1':(assignEach [.Subscript (.Name x p) ix tp] X.env).map (·.2)=[assign (.Subscript (.Name x p) ix tp) X.env]:=by rfl)(ha:∀v,assign (.Subscript (.Name x p) ix tp) X.env v=(do
 let ov <- holding [v] (eval (.Name x p) X.env);let iv <- holding [v,ov] (eval ix X.env)
 standAt tp
 holding [v,ov,iv] (setItem ov iv v)
 release [v,ov,iv] []):=by intro _;rfl):
  PSF X (.Assign [.Subscript (.Name x p) ix tp] e pos) (Ci i gk ga):=λG₀ H₀ pins s σ H D I h=>by
 refine kU he (Eo (dA hi hv hd hcd) hk B1 ha) hs hw h1' pins s σ H D I ?_;obtain⟨G,ρ,sr,h⟩:=h;obtain⟨ds,e1,h⟩:=ownAt.ok h;obtain⟨l,vs,h1,h2,h3,h4,h5⟩:=sr.own i ds e1;obtain⟨G1,st1,pk⟩:=sr.peek i;refine⟨G1,_,st1,?_⟩;cases q:ga (frz i ρ)with
 |ok d=>
  rw[q]at h;intro v G' H' u r;refine⟨.ref l,h1,G',_,st1.up u,?_⟩;cases q2:gk (frz i ρ)with
  |ok kd=>
   rw[q2]at h;intro kv G'' H'' u' rk;cases rk with
   |int k=>
    have h:jM X G₀ H₀ D (match ixN ds.length k with
     |some n=>if fl 10 d=true then .nx (ρ.set i (some (.own (ds.set n d))))else .no
     |none=>.no):=h;obtain⟨G2,u2,tr⟩:=pk G'' H'' (u.trans u');cases q3:ixN ds.length k with
    |none=>rw[q3]at h;exact h.elim
    |some n=>
     rw[q3]at h;have h:jM X G₀ H₀ D (if fl 10 d=true then .nx (ρ.set i (some (.own (ds.set n d))))else .no):=h;by_cases hz:fl 10 d=true;·rw[if_pos hz]at h;refine⟨l,vs,k,n,rfl,rfl,(u.trans u').hh _ _ h2,by rw[h5.length];exact q3,h _ G2 _ ?_⟩;exact(sr.ups u2).mut e1 h1 (.set (Aq tr 10 v d hz (r.mono u'.gg)) n (h5.mono u2.gg))
     ·rw[if_neg hz]at h;exact h.elim
   |_=>exact h.elim
  |_=>rw[q2]at h;exact h.elim
 |_=>rw[q]at h;exact h.elim
noncomputable def OB:D->R (List D)
 |.lst _ xs=>.ok xs
 |.tup xs=>.ok xs
 |_=>.no
noncomputable def GF:List D->R (List D)
 | [d]=>OB d
 |_=>.no
noncomputable def Ez(gl:Ev->R (List D)):Ev->R (List D):=λρ=>gl ρ>>=GF
def wQ{p:Pos}(hg:Gl X "list")(hm:X.mg "list"=none)(ha:PFA X [e] gl)(he:starEach [e] X.env=(false,eval e X.env)::starEach [] X.env:=by rfl):PFL X (.Call (.Name "list" p) [e] [] pos) (Ez gl):=by
 intro pins s σ H Q I hq;refine nq sZ hg hm PyProof.Rows.Boot.«list» ha (by decide) (by decide) he rfl pins s σ H Q I ?_;obtain⟨G,ρ,st,hq⟩:=hq;have hq:(gl ρ>>=GF).post (ya X.K G H Q) (Exx X σ G H):=hq;refine⟨G,ρ,st,?_⟩;cases q:gl ρ with
 |ok ds=>
  rw[q]at hq;intro vs G' H' u r;have hq:(GF ds).post (ya X.K G H Q) (Exx X σ G H):=hq;unfold GF at hq;split at hq
  ·obtain⟨v,rfl,rv⟩:=r.one;cases rv with
   |lst hs t=>exact⟨_,_,rfl,.inl (.of (u.sub _ _ hs)),λl hl=>hq l _ G' H' u hl t⟩
   |fls hs t=>exact⟨_,_,rfl,.inl (hs.mono u.sub),λl hl=>hq l _ G' H' u hl t⟩
   |tup hs t=>exact⟨_,_,rfl,.inr (hs.mono u.sub),λl hl=>hq l _ G' H' u hl t⟩
   |_=>exact hq.elim
  ·exact hq.elim
 |ex C=>rw[q]at hq;exact hq
 |no=>rw[q]at hq;exact hq
def A0{a b:Expr}{p:Pos}(hg:Gl X "range")(hm:X.mg "range"=none)(ha:PFA X [a,b] gl)(hs:starEach [a,b] X.env=[(false,eval a X.env),(false,eval b X.env)]:=by rfl)(hs2:starEach [b] X.env=[(false,eval b X.env)]:=by rfl):PIF X tg (.Call (.Name "range" p) [a,b] [] pos) (ax jw gl):=xy hg hm ha hs hs2
end
end L2
namespace L2
open PySem PySem.Spec PyProof.Rows PySem.W
noncomputable def pf:List D->Option (List Int)
 | []=>some []
 |.int i::ds=>(pf ds).map (i::·)
 |_=>none
theorem Reps.nums{K:PySem.W.Frag}:∀{vs:List V}{ds:List D}{ns:List Int},Reps K G vs ds->pf ds=some ns->vs=ns.map V.int
 |_,_,_,.nil,h=>by cases h;rfl
 |_,_,ns,.cons (d:=d) r t,h=>by
  cases d <;> first|(cases h;done)|skip
  rename_i x;rename_i ds';cases q:pf ds' with
  |none=>simp[pf,q]at h
  |some zs=>simp[pf,q]at h;subst h;rw[Reps.nums t q,r.int_inv];rfl
section
def wj{e:Expr}{ga:Ev->R D}{p p2:Pos}(hm:X.mg "isinstance"=none)(ha:PF X e ga)(hm2:X.mg "list"=none)(hg2:Gl X "list":=by rfl)(hg:Gl X "isinstance":=by rfl)(hs1:starEach [e,.Name "list" p2] X.env=(false,eval e X.env)::starEach [.Name "list" p2] X.env:=by rfl):PF X (.Call (.Name "isinstance" p) [e,.Name "list" p2] [] pos) (ax (kX (·=="list")) ga):=zl hm ha hm2 hg2 hg hs1
end
end L2
namespace L2
open PySem PySem.Spec PyProof.Rows
open Sem (wp)
open AutoSeq1 (wpAny_loadPart')
def Il:isSubtype (.type "enumerate") (.type "enumerate")=pure true:=PySem.sub_enumerate
def EA(l:Addr)(its:Array Value)(n:Nat)(dct:Option Addr)(sl:Array (Option Value)):
  Meets (Builtin.«enumerate.__new__» ⟨[.type "enumerate",.ref l],[]⟩) (λ_ Rr s=>s.heap.get? l=some { cls:=.type "tuple",dict:=dct,data:=.seq its n,slots:=sl }/\
   Rr (.ok (.ret (.ref (s.heap.push { cls:=.type "tuple_iterator",data:=.fields #[.ref l,.int 0 0] }).objs.size)))
    { s with heap:=(s.heap.push { cls:=.type "tuple_iterator",data:=.fields #[.ref l,.int 0 0] }).push { cls:=.type "enumerate",data:=.fields #[.none,.bool false,.ref s.heap.objs.size,rawInt 0,.none,.none] } }):=
 .of_wp λprog w A Rr s h=>by
  obtain⟨hp,g,d,tk,os⟩:=s;obtain⟨hl,h⟩:=h;have hsub:=Il;have hT:Heap.IsTuple (Shared.heap ⟨hp,g,d,tk,os⟩) l its:=⟨_,hl,rfl,n,rfl⟩
  wp_walk using wpAny_loadPart' hl
  refine wpAny_stack_any λst=>wpAny_pure ?_;split;·rename_i c _ _ _ _ _;cases (c==Value.type "enumerate") <;> (wp_walk using wpAny_loadPart' hl,wpAny_pyIter_tuple hT;exact⟨_,rfl,h⟩)
  ·wp_walk using wpAny_loadPart' hl,wpAny_pyIter_tuple hT
   exact⟨_,rfl,h⟩
section
variable{prog:Program}{w:World}{A:Around}
def EX{itT:String}{l:Addr}{c:Int}{Q:Value->Shared->Prop}(h:∀h',IsEnum h' (s.heap.objs.size+1) s.heap.objs.size c .none->h'.get? s.heap.objs.size=some { cls:=.type itT,data:=.fields #[.ref l,.int 0 0] }->h'.objs.size=s.heap.objs.size+2->
 (∀b o,s.heap.get? b=some o->h'.get? b=some o)->Q (.ref (s.heap.objs.size+1)) { s with heap:=h' }):
  wants (λobj s₁=>s₁.TypeIs obj "enumerate"/\Q obj s₁) E (.ok (.ret (.ref (s.heap.push { cls:=.type itT,data:=.fields #[.ref l,.int 0 0] }).objs.size)))
   { s with heap:=(s.heap.push { cls:=.type itT,data:=.fields #[.ref l,.int 0 0] }).push { cls:=.type "enumerate",data:=.fields #[.none,.bool false,.ref s.heap.objs.size,rawInt c,.none,.none] } }:=by
 have hz:(s.heap.push { cls:=.type itT,data:=.fields #[.ref l,.int 0 0] }).objs.size=s.heap.objs.size+1:=Heap.size_push ..;have he:IsEnum ((s.heap.push { cls:=.type itT,data:=.fields #[.ref l,.int 0 0] }).push { cls:=.type "enumerate",data:=.fields #[.none,.bool false,.ref s.heap.objs.size,rawInt c,.none,.none] }) (s.heap.objs.size+1) s.heap.objs.size c .none:=by have q:=Heap.get?_push_size (s.heap.push { cls:=.type itT,data:=.fields #[.ref l,.int 0 0] }) (o:={ cls:=.type "enumerate",data:=.fields #[.none,.bool false,.ref s.heap.objs.size,rawInt c,.none,.none] }) rfl;rw[hz]at q;exact q
 rw[hz];exact⟨⟨_,he,rfl⟩,h _ he (Heap.get?_push_of_some _ (Heap.get?_push_size _ rfl)) (by rw[Heap.size_push,hz]) λb o x=>Heap.get?_push_of_some _ (Heap.get?_push_of_some _ x)⟩
theorem BN{l:Addr}{its:Array Value}{n:Nat}{dct:Option Addr}{sl:Array (Option Value)}{Q:Value->Shared->Prop}(hl:s.heap.get? l=some { cls:=.type "tuple",dict:=dct,data:=.seq its n,slots:=sl })(h:∀h',IsEnum h' (s.heap.objs.size+1) s.heap.objs.size 0 .none->h'.get? s.heap.objs.size=some { cls:=.type "tuple_iterator",data:=.fields #[.ref l,.int 0 0] }->h'.objs.size=s.heap.objs.size+2->
 (∀b o,s.heap.get? b=some o->h'.get? b=some o)->Q (.ref (s.heap.objs.size+1)) { s with heap:=h' }):
  wpAny (model prog w) A (call (.type "enumerate") [.ref l]) Q E s:=
 callType_new F.called_enumerate (by decide) (F.typeCall_enumerate_1 _) (F.newCall_enumerate_1 _) (λobj=>F.args_object_init_2 obj _) F.entry_enumerate_new (EA l its n dct sl) ⟨hl,EX h⟩
theorem Ff{t:Addr}{its:Array Value}{x:Value}{Q:Value->Shared->Prop}(hit:s.heap.IsTupleIter it t i)(ht:s.heap.IsTuple t its)(hx:its[i]?=some x)(hQ:∀h',h'.IsTupleIter it t (i+1)->Heap.SameBut it s.heap h'->Q x { s with heap:=h' }):wpAny (model prog w) A (Builtin.SmallTypes.nextOf (.ref it)) Q E s:=by
 obtain⟨ob,h1,h2,h3⟩:=id hit;obtain⟨ot,k1,_,m,k2⟩:=ht;refine wpAny_bind (wpAny_callSpecial?_slot hit.typeIs F.slot_tuple_iterator_next (wpAny_call_entry F.slot_tuple_iterator_next hit.typeIs F.entry_tuple_iterator_next ?_ (F.args_tuple_iterator_next_1 _)));refine wpAny_bind (m:=field (.ref it) 0) (wpAny_field h1 h3 rfl ?_);refine wpAny_bind (wpAny_field h1 h3 rfl (wpAny_bind (wpAny_seqItems k1 k2 ?_)));simp only[Int.toNat_natCast,hx];refine wpAny_bind (wpAny_setField h1 h3 (by simp) (wpAny_pure ⟨x,rfl,wpAny_pure (hQ _ ⟨_,Heap.get?_update_self _ h1 (Obj.isFreed_of_fields (Obj.data_mapFields h3 _)),(Obj.cls_mapFields ..).trans h2,?_⟩ (Heap.SameBut.update ..))⟩));rw[Obj.data_mapFields h3];simp[rawInt]
theorem DJ{t:Addr}{its:Array Value}{Q:Value->Shared->Prop}(hh:A.handled=none)(hit:s.heap.IsTupleIter it t i)(ht:s.heap.IsTuple t its)(hx:its[i]?=none)(hE:∀h' e,Heap.ExtBut it s.heap h'->(∃o,h'.get? e=some o/\o.cls=.type "StopIteration")->E (.ref e) { s with heap:=h' }):wpAny (model prog w) A (Builtin.SmallTypes.nextOf (.ref it)) Q E s:=by
 obtain⟨ob,h1,h2,h3⟩:=id hit;obtain⟨ot,k1,_,m,k2⟩:=ht;refine wpAny_bind (wpAny_callSpecial?_slot hit.typeIs F.slot_tuple_iterator_next (wpAny_call_entry F.slot_tuple_iterator_next hit.typeIs F.entry_tuple_iterator_next ?_ (F.args_tuple_iterator_next_1 _)));refine wpAny_bind (m:=field (.ref it) 0) (wpAny_field h1 h3 rfl ?_);refine wpAny_bind (wpAny_field h1 h3 rfl (wpAny_bind (wpAny_seqItems k1 k2 ?_)));simp only[Int.toNat_natCast,hx];refine wpAny_bind (wpAny_rule (wpAny_bind (wpAny_setField h1 h3 (by simp) (wpAny_bind ?_))));refine wpAny_bind (wpAny_newObj_type (wpAny_bind (wpAny_of_eq (by first|rfl|(simp only[firstArgMember];rfl)) (wpAny_newObj_type ?_ (by size_fits)))) (by size_fits));refine wpAny_bind (wpAny_handled ?_)
 first|rw[show A.in1.handled=none from hh]|rw[hh]
 exact wpAny_bind (wpAny_pure (wpAny_throw (hE _ _ (((Heap.SameBut.update ..).extBut.push _).push _) ⟨_,Heap.get?_push_size _ rfl,rfl⟩)))
end
def IM{prog:Program}{w:World}{A:Around}(hh:A.handled=none)(it l:Addr)(hne:l≠it)(its:Array Value)(c:Nat):
  Draws prog w A it [it,l] (c+its.size) (λi v=>∃k,i=c+k/\its[k]?=some v) (λi h=>∃k,i=c+k/\h.IsTupleIter it l k/\h.IsTuple l its) where
 live:=λ_ _ ⟨_,_,st,_⟩=>let⟨o,ho,_⟩:=st;⟨o,ho⟩
 frame:=λ_ _ _ ⟨k,e,st,t⟩ hk=>⟨k,e,st.at λo e=>hk it (by simp) o e,let⟨o,ho,r⟩:=t;⟨o,hk l (by simp) o ho,r⟩⟩
 item:=λi s Q E hi ⟨k,e,st,t⟩ hQ=>by
  have hk:k<its.size:=by omega
  refine Ff st t (x:=its[k]) (by simp[hk]) λh' st' sb=>hQ _ h' s.toks ⟨k,e,by simp[hk]⟩ ⟨k+1,by omega,st',?_⟩ sb;obtain⟨o,ho,r⟩:=t;exact⟨o,(sb.2 l hne).trans ho,r⟩
 done:=λs Q E ⟨k,e,st,t⟩ hE=>DJ hh st t (Array.getElem?_eq_none (by omega)) hE
def Hr{prog:Program}{w:World}{A:Around}(hh:A.handled=none)(it l:Addr)(hne:l≠it)(its:Array Value)(c:Nat):
  Draws prog w A it [it,l] (c+its.size) (λi v=>∃k,i=c+k/\its[k]?=some v) (λi h=>∃k,i=c+k/\h.IsListIter it l k/\h.IsList l its) where
 live:=λ_ _ ⟨_,_,st,_⟩=>let⟨o,ho,_⟩:=st;⟨o,ho⟩
 frame:=λ_ _ _ ⟨k,e,st,t⟩ hk=>⟨k,e,st.at λo e=>hk it (by simp) o e,t.at λo e=>hk l (by simp) o e⟩
 item:=λi s Q E hi ⟨k,e,st,t⟩ hQ=>by
  have hk:k<its.size:=by omega
  exact wpAny_nextOf_list_item st t (x:=its[k]) (by simp[hk]) λh' st' sb=>hQ _ h' s.toks ⟨k,e,by simp[hk]⟩ ⟨k+1,by omega,st',t.extBut sb.extBut hne⟩ sb
 done:=λs Q E ⟨k,e,st,t⟩ hE=>wpAny_nextOf_list_end hh st t (Array.getElem?_eq_none (by omega)) hE
def Inv.turned2{σ:List (Option V)}{t':Nat}{e:Addr}(I:Inv X pins σ H s)(k:∀b o,b≠it->b≠e->s.heap.get? b=some o->h'.get? b=some o)(f1:oS X pins H it)(f2:oS X pins H e):
  Inv X pins σ H { s with heap:=h',toks:=t' }:=by
 obtain⟨a0,a1,a2,a3,a4,a5⟩:=f1;obtain⟨b0,b1,b2,b3,b4,b5⟩:=f2;have n1:∀b u,H b=some u->b≠it:=λb u q z=>by rw[z,a0]at q;cases q
 have n2:∀b u,H b=some u->b≠e:=λb u q z=>by rw[z,b0]at q;cases q
 have kk:∀b o,b∉[it,e]->s.heap.get? b=some o->h'.get? b=some o:=λb o hb q=>k b o (λz=>hb (by simp[z])) (λz=>hb (by simp[z])) q;refine I.step (λb hb=>?_) (λb o _ _ hc q _=>kk b o hc q) (λb o _ _ hc q _=>⟨o.slots,kk b o hc q⟩) (λ_ _ _ _ n=>n) (λb o hc q=>⟨o,kk b o hc q⟩) (λ_ _ q=>q) (λ_ _ _ q=>q) (λb ps q=>⟨#[],by rw[q];simp⟩) (λm hm=>?_) (λb u q=>?_) I.bare
 ·simp only[List.mem_cons,List.mem_nil_iff,or_false]at hb;rcases hb with rfl|rfl;·exact⟨a3,a1,a4,a5⟩
  ·exact⟨b3,b1,b4,b5⟩
 ·obtain⟨o,es,ep,ho,r⟩:=hm;exact⟨o,es,ep,k _ o (Ne.symm a1) (Ne.symm b1) ho,r⟩
 ·refine(I.hok b u q).stay (λc v hc q'=>k c v ?_ ?_ q') (λ_ q'=>q') λ_ _ q'=>q'
  ·rcases hc with z|z;·rw[z];exact n1 b u q
   ·exact n1 c _ z
  ·rcases hc with z|z;·rw[z];exact n2 b u q
   ·exact n2 c _ z
noncomputable def Ite(sq:Hp->List V->Prop)(c:Nat):It:=⟨λi H=>∃xs x,sq H xs/\xs[i]?=some x,
 λi H v H'=>∃p x,v=.ref p/\H p=none/\H'=upd H p (.tup [.int ((c+i:Nat):Int),x])/\∀xs,sq H xs->xs[i]?=some x,λi H=>∃xs,sq H xs/\xs.length<=i⟩
section
variable{w:World}{K:PySem.W.Frag}{tp:Pos}
structure Inner(P:Program)(w:World)(K:PySem.W.Frag)(sq:Hp->List V->Prop)(a it:Addr)(iter:Nat->Heap->Prop):Prop where
 obj:∀i h,iter i h->∃o,h.get? it=some o/\∀v,o.data≠.cell v
 at_:∀i h h',iter i h->(∀o,h.get? it=some o->h'.get? it=some o)->iter i h'
 inj:∀(X:Cx),X.K=K->∀(pins:List (Addr×Obj))(σ:St)(H:Hp)(s:Shared) xs ys,Inv X pins σ H s->sq H xs->sq H ys->xs=ys
 dr:∀(X:Cx),X.prog=P->X.w=w->X.K=K->X.calm=true->∀(pins:List (Addr×Obj))(σ:St)(H:Hp)(s:Shared)(xs:List V)(c:Nat),Inv X pins σ H s->sq H xs->(∀i,iter i s.heap->a≠it)->
  ∃its:List Value,Vals xs its/\xs.length<=sizeLine/\∃(Pd:Nat->Value->Prop)(St:Nat->Heap->Prop),Draws P w X.A.in1 it [it,a] (c+its.length) Pd St/\(∀k v,Pd (c+k) v->its[k]?=some v)/\
   (∀k h,iter k h->(∀o,s.heap.get? a=some o->h.get? a=some o)->a≠it->St (c+k) h)/\∀k h,St (c+k) h->iter k h
 fin:∀(X:Cx),X.prog=P->X.w=w->X.K=K->X.calm=true->∀(pins:List (Addr×Obj))(σ:St)(H:Hp)(s:Shared)(xs:List V)(i:Nat)(Q:Value->Shared->Prop)(E:Value->Shared->Prop),Inv X pins σ H s->sq H xs->xs.length<=i->iter i s.heap->
  (∀h' x,Heap.ExtBut it s.heap h'->(∃o,h'.get? x=some o/\o.cls=.type "StopIteration")->E (.ref x) { s with heap:=h' })->wpAny (model P w) X.A.in1 (Builtin.SmallTypes.nextOf (.ref it)) Q E s
def Ar{ob o:Obj}(hb:b<h.objs.size)(q:(h.push ob).get? b=some o):h.get? b=some o:=by unfold Heap.get? Heap.push at *;simpa[Array.getElem?_push,Nat.ne_of_lt hb]using q
theorem HJ{prog:Program}{A:Around}{e:Addr}{c:Int}{old:Value}{Q:Option Value->Shared->Prop}(he:IsEnum s.heap e it c old)(hn:∀(Q':Value->Shared->Prop)(E':Value->Shared->Prop),(∀h' x,Heap.ExtBut it s.heap h'->(∃o,h'.get? x=some o/\o.cls=.type "StopIteration")->E' (.ref x) { s with heap:=h' })->wpAny (model prog w) A.in1 (Builtin.SmallTypes.nextOf (.ref it)) Q' E' s)(hQ:∀h',Heap.ExtBut it s.heap h'->Q none { s with heap:=h' }):wpAny (model prog w) A (pyNext (.ref e)) Q E s:=by
 have ht:s.TypeIs (.ref e) "enumerate":=⟨_,he,rfl⟩
 refine wpAny_bind (wpAny_attempt (wpAny_callSpecial?_slot ht F.slot_enumerate_next (wpAny_call_entry F.slot_enumerate_next ht F.entry_enumerate_next ?_ (F.args_enumerate_next_1 _))));refine wpAny_bind (m:=field (.ref e) 2) (wpAny_field he rfl rfl (wpAny_bind (hn _ _ λh' x hb hx=>?_)));obtain⟨o,ho,hc⟩:=hx;exact wpAny_bind (wpAny_isInstance ⟨o,ho,hc⟩ isSubtype_stop (wpAny_pure (hQ _ hb)))
def zH{e:Addr}{iter:Nat->Heap->Prop}(N:Inner P w K sq a it iter)(c:Nat)(hei:e≠it)(hea:e≠a)(hai:a≠it):
  Turn P w K (.Tuple elts kt tp) (Ite sq c) [e,it] e (λi h=>(∃old,IsEnum h e it ((c+i:Nat):Int) old)/\iter i h) where
 mem:=by simp
 obj:=λi h st b hb=>by
  simp only[List.mem_cons,List.mem_nil_iff,or_false]at hb;rcases hb with rfl|rfl
  ·obtain⟨old,q⟩:=st.1;exact⟨_,q,λv z=>by cases z⟩
  ·exact N.obj i h st.2
 keep:=λi h h' st k=>⟨st.1.imp λold q=>k e (by simp) _ q,N.at_ i h h' st.2 λo q=>k it (by simp) o q⟩
 item:=by
  intro X hP hw hK hc i pins s σ H E I hf st hg;obtain⟨xs,x,hq,hx⟩:=hg;obtain⟨⟨old,he⟩,hi⟩:=st;obtain⟨its,rv,hz,Pd,St,Dr,p1,p2,p3⟩:=N.dr X hP hw hK hc pins σ H s xs c I hq λ_ _=>hai;obtain⟨u,hu,ru⟩:=rv.get hx;have hil:=(List.getElem?_eq_some_iff.mp hu).1;have fe:=hf e (by simp);have fi:=hf it (by simp);refine wpAny_pyNext_enum_itemD Dr he (p2 i _ hi (λ_ q=>q) hai) (by omega) hei (by simp only[List.mem_cons,List.mem_nil_iff,or_false,not_or];exact⟨hei,hea⟩) λy h1 tk hy ho hs1 ht hsz hk=>?_;have ey:y=u:=by have q:=p1 i y hy;rw[hu]at q;exact(Option.some.inj q).symm
  subst ey;refine⟨_,rfl,wpAny_letOwnedTupleGo_enum ho λh2 he2 sb=>?_⟩;have helt:=Heap.lt_size he;have hpe:=Nat.ne_of_gt helt;obtain⟨oi,hoi,_⟩:=N.obj i _ hi;have hpi:=Nat.ne_of_gt (Heap.lt_size hoi);have hp:=I.hok.fresh (Nat.le_refl _);have Ia:Inv X pins σ (upd H s.heap.objs.size (.tup [.int ((c+i:Nat):Int),x])) { s with heap:=s.heap.push { cls:=.type "tuple",data:=.seq #[.int ((c+i:Nat):Int) tk,y] } }:=by refine I.laid (λb o q=>Heap.get?_push_of_some _ q) (Nat.le_refl _) ?_;exact⟨by show 2<=sizeLine;decide,[.int ((c+i:Nat):Int) tk,y],.cons ⟨tk,rfl⟩ (.cons ru .nil),IsTup.new _ _⟩
  have fe':oS X pins (upd H s.heap.objs.size (.tup [.int ((c+i:Nat):Int),x])) e:=⟨by rw[aw (Ne.symm hpe)];exact fe.1,fe.2⟩
  have fi':oS X pins (upd H s.heap.objs.size (.tup [.int ((c+i:Nat):Int),x])) it:=⟨by rw[aw (Ne.symm hpi)];exact fi.1,fi.2⟩
  have ht2:=(sb.2 _ hpe).trans ht;have Ib:Inv X pins σ (upd H s.heap.objs.size (.tup [.int ((c+i:Nat):Int),x])) { s with heap:=h2,toks:=tk+1 }:=by
   refine Ia.turned2 (λb o n1 n2 q=>?_) fi' fe';by_cases z:b=s.heap.objs.size;·subst z;have q':=Heap.get?_push_size s.heap (o:={ cls:=.type "tuple",data:=.seq #[.int ((c+i:Nat):Int) tk,y] }) rfl;rw[q']at q;rw[ht2];exact q
   ·have q2:s.heap.get? b=some o:=by
     rcases Nat.lt_or_ge b s.heap.objs.size with hb|hb;·exact Ar hb q
     ·have hlt:=Heap.lt_size q;rw[Heap.size_push]at hlt;exact absurd (Nat.le_antisymm (Nat.le_of_lt_succ hlt) hb) z
    exact(sb.2 b n2).trans (hk b o n2 n1 q2)
  refine⟨.ref s.heap.objs.size,_,Ib,rfl,⟨_,x,rfl,hp,rfl,λys hy'=>by rw[N.inj X hK pins σ H s ys xs I hy' hq];exact hx⟩,⟨⟨y,by have q:=he2;rw[show((c+(i+1):Nat):Int)=((c+i:Nat):Int)+1 by omega];exact q⟩,?_⟩,λb hb=>?_⟩;·refine N.at_ (i+1) h1 h2 (p3 (i+1) h1 hs1) λo q=>(sb.2 it (Ne.symm hei)).trans q
  ·simp only[List.mem_cons,List.mem_nil_iff,or_false]at hb;rcases hb with rfl|rfl;·exact fe'.1
   ·exact fi'.1
 done:=by intro X hP hw hK hc i pins s σ H E I hf st hg;obtain⟨xs,hq,hx⟩:=hg;obtain⟨⟨old,he⟩,hi⟩:=st;have fi:=hf it (by simp);have fin:=N.fin X hP hw hK hc pins σ H s xs i;exact HJ he (λQ' E' hE=>fin Q' E' I hq hx hi hE) λh' hb=>⟨rfl,I.turned (λb o n q=>hb b o n q) fi.1 fi.2.1 fi.2.2.2.1 fi.2.2.2.2.1 fi.2.2.2.2.2⟩
 self:=λA i s Q E st h=>by obtain⟨⟨old,he⟩,_⟩:=st;exact wpAny_pyIter_enum he h
def zD(a it:Addr):Inner P w K (λH xs=>SqT K H a xs) a it (λi h=>h.IsTupleIter it a i) where
 obj:=λi h st=>let⟨o,q,c,d⟩:=st;⟨o,q,λv z=>by rw[d]at z;cases z⟩
 at_:=λi h h' st k=>st.at k
 inj:=λX hK pins σ H s xs ys I h1 h2=>by subst hK;exact I.tuple_inj h1 h2
 dr:=λX hP hw hK hc pins σ H s xs c I hq hne=>by
  subst hP hw hK;obtain⟨its,rv,p,hz⟩:=I.tuple hq;have hh:X.A.in1.handled=none:=I.ok.hd hc;by_cases hai:a=it;·exact⟨its,rv,hz,λ_ _=>False,λ_ _=>False,⟨λ_ _ z=>z.elim,λ_ _ _ z _=>z,λ_ _ _ _ _ z _=>z.elim,λ_ _ _ z _=>z.elim⟩,λ_ _ z=>z.elim,λ_ _ _ _ z=>absurd hai z,λ_ _ z=>z.elim⟩
  ·have Dq:=IM (prog:=X.prog) (w:=X.w) hh it a hai its.toArray c;refine⟨its,rv,hz,λi v=>∃k,i=c+k/\its.toArray[k]?=some v,λi h=>∃k,i=c+k/\h.IsTupleIter it a k/\h.IsTuple a its.toArray,Dq,λk v q=>?_,λk h st kp _=>⟨k,rfl,st,?_⟩,λk h q=>?_⟩
   ·obtain⟨k',e,q⟩:=q;have:k=k':=by omega
    subst this;simpa using q
   ·obtain⟨o,ho,r⟩:=p;exact⟨o,kp o ho,r⟩
   ·obtain⟨k',e,st,_⟩:=q;have:k=k':=by omega
    subst this;exact st
 fin:=λX hP hw hK hc pins σ H s xs i Q E I hq hx st hE=>by subst hP hw hK;obtain⟨its,rv,p,hz⟩:=I.tuple hq;have hl:=rv.length;exact DJ (I.ok.hd hc) st (show s.heap.IsTuple a its.toArray from p) (by simp;omega) hE
def sX(a it:Addr):Inner P w K (λH xs=>SqL K H a xs) a it (λi h=>h.IsListIter it a i) where
 obj:=λi h st=>let⟨o,q,c,d⟩:=st;⟨o,q,λv z=>by rw[d]at z;cases z⟩
 at_:=λi h h' st k=>st.at k
 inj:=λX hK pins σ H s xs ys I h1 h2=>by subst hK;exact I.list_inj h1 h2
 dr:=λX hP hw hK hc pins σ H s xs c I hq hne=>by
  subst hP hw hK;obtain⟨its,rv,p,hz⟩:=I.list hq;have hh:X.A.in1.handled=none:=I.ok.hd hc;by_cases hai:a=it;·exact⟨its,rv,hz,λ_ _=>False,λ_ _=>False,⟨λ_ _ z=>z.elim,λ_ _ _ z _=>z,λ_ _ _ _ _ z _=>z.elim,λ_ _ _ z _=>z.elim⟩,λ_ _ z=>z.elim,λ_ _ _ _ z=>absurd hai z,λ_ _ z=>z.elim⟩
  ·have Dq:=Hr (prog:=X.prog) (w:=X.w) hh it a hai its.toArray c;refine⟨its,rv,hz,λi v=>∃k,i=c+k/\its.toArray[k]?=some v,λi h=>∃k,i=c+k/\h.IsListIter it a k/\h.IsList a its.toArray,Dq,λk v q=>?_,λk h st kp _=>⟨k,rfl,st,?_⟩,λk h q=>?_⟩
   ·obtain⟨k',e,q⟩:=q;have:k=k':=by omega
    subst this;simpa using q
   ·obtain⟨o,ho,r⟩:=p.isList;exact⟨o,kp o ho,r⟩
   ·obtain⟨k',e,st,_⟩:=q;have:k=k':=by omega
    subst this;exact st
 fin:=λX hP hw hK hc pins σ H s xs i Q E I hq hx st hE=>by subst hP hw hK;obtain⟨its,rv,p,hz⟩:=I.list hq;have hl:=rv.length;exact wpAny_nextOf_list_end (I.ok.hd hc) st p.isList (by simp;omega) hE
end
end L2
namespace L2
open PySem PySem.Spec PyProof.Rows
noncomputable def br(c:Nat)(xs:List D):List D:=(List.range xs.length).map λi=>.tup [.int ((c+i:Nat):Int),xs.getD i .non]
def rZ{c:Nat}{xs:List D}(h:(br c xs)[i]?=some d):∃x,xs[i]?=some x/\d=.tup [.int ((c+i:Nat):Int),x]:=by
 unfold br at h;rw[List.getElem?_map]at h;by_cases hi:i<xs.length
 ·rw[List.getElem?_range hi]at h;refine⟨xs[i],List.getElem?_eq_getElem hi,?_⟩;have e:xs.getD i .non=xs[i]:=by rw[List.getD_eq_getElem?_getD,List.getElem?_eq_getElem hi];rfl
  rw[<- e];exact(Option.some.inj h).symm
 ·rw[List.getElem?_eq_none (by simp;omega)]at h;cases h
def mT(c:Nat)(xs:List D):(br c xs).length=xs.length:=by simp[br]
def ItOk.enum{K:PySem.W.Frag}{c:Nat}(hs:∀G1 H1,Same G G1->Same G1 H1->sq H1 vs)(r:Reps K G vs ds):ItOk K G (Ite sq c) (br c ds):=by intro i G1 H1 s1 s2;refine⟨λd e=>?_,λhl=>⟨vs,hs G1 H1 s1 s2,by rw[mT]at hl;rw[r.length];exact hl⟩⟩;obtain⟨dx,ex,rfl⟩:=rZ e;obtain⟨v,ev,rv⟩:=r.get ex;refine⟨⟨vs,v,hs G1 H1 s1 s2,ev⟩,λx H' y=>?_⟩;obtain⟨p,x',rfl,hp,rfl,y⟩:=y;have z:=y vs (hs G1 H1 s1 s2);rw[ev]at z;cases z;refine⟨upd G1 p (.tup [.int ((c+i:Nat):Int),v]),.new s2 hp,.tup (.of aF) (.cons (.int _) (.cons ((rv.mono s1).mono (.into (s2.free hp))) .nil))⟩
section
variable{tp:Pos}{Rr:It->Hp->Prop}
def qv{l:Addr}{iter:Nat->Heap->Prop}{c:Nat}(I:Inv X pins σ H s)(N:Inner X.prog X.w X.K sq l (s.heap.objs.size) iter)(hl:l<s.heap.objs.size)(he:IsEnum h' (s.heap.objs.size+1) s.heap.objs.size (c:Int) .none)(hi:iter 0 h')(hk:∀b o,s.heap.get? b=some o->h'.get? b=some o)(q:Rr (Ite sq c) H):PIE X pins σ (.Tuple elts kt tp) Rr (.ref (s.heap.objs.size+1)) { s with heap:=h' }:=by
 have hlt:s.heap.objs.size<=s.heap.objs.size+1:=Nat.le_succ _;refine⟨_,_,_,_,H,rfl,I.kept hk,zH N c (Nat.ne_of_gt (Nat.lt_succ_self _)) (Nat.ne_of_gt (Nat.lt_succ_of_lt hl)) (Nat.ne_of_lt hl),⟨⟨_,he⟩,hi⟩,λb hb=>?_,q⟩;simp only[List.mem_cons,List.mem_nil_iff,or_false]at hb;rcases hb with rfl|rfl;·exact I.fpOk hlt (I.hok.fresh hlt)
 ·exact I.fpOk (Nat.le_refl _) (I.hok.fresh (Nat.le_refl _))
def SqT.lt'(I:Inv X pins σ H s)(h:SqT X.K H a xs):a<s.heap.objs.size:=by obtain⟨its,rv,⟨o,q,_⟩,_⟩:=I.tuple h;exact Heap.lt_size q
def SqL.lt'(I:Inv X pins σ H s)(h:SqL X.K H a xs):a<s.heap.objs.size:=by obtain⟨its,rv,p,_⟩:=I.list h;obtain⟨o,q,_⟩:=p.isList;exact Heap.lt_size q
end
noncomputable def pN:D->R (List D)
 |.lst _ xs=>.ok (br 0 xs)
 |.tup xs=>.ok (br 0 xs)
 |_=>.no
noncomputable def Eg:D->D->R (List D)
 |.tup xs,.int c=>if 0<=c/\c<1073741824 then .ok (br c.toNat xs)else .no
 |_,_=>.no
section
variable{a b:Expr}{ga:Ev->R D}{p tp kp:Pos}
def uN(hg:Gl X "enumerate")(hm:X.mg "enumerate"=none)(ha:PF X a ga)(hs:starEach [a] X.env=(false,eval a X.env)::starEach [] X.env:=by rfl):
  PIF X (.Tuple elts kt tp) (.Call (.Name "enumerate" p) [a] [] pos) (ax pN ga):=by
 intro pins s σ H Rr I h;obtain⟨G,ρ,st,h⟩:=h;have ta:CY (tF X ga) L4 σ H (λvs H1=>∃v,vs=[v]/\∃G1 d,Up G H G1 H1/\Rep X.K G1 v d/\Same G1 H1/\(pN d).post (Fin G1 H1 (λG J items=>ItOk X.K G J items) Rr) (Exx X σ G1 H1)):=
  tG.intro st h λd v G1 H1 u1 st1 r1 h1=>⟨v,rfl,G1,d,u1,r1,st1.sub,h1⟩
 refine Call_ (mK I hg hm PyProof.Rows.Boot.«enumerate» (PyProof.Rows.callWith_type1 (thn ((cW ha jj hs) pos pins s σ H _ I ta) λus s1 ⟨vs,H1,I1,r1,q1⟩=>?_) hs rfl));obtain⟨v,hv,G1,d,u1,rd,sub,h1⟩:∃v,vs=[v]/\∃G1 d,Up G H G1 H1/\Rep X.K G1 v d/\Same G1 H1/\(pN d).post (Fin G1 H1 (λG J items=>ItOk X.K G J items) Rr) (Exx X σ G1 H1):=q1;subst hv;obtain⟨u,rfl,rv⟩:=r1.one;cases rd with
 |lst hq t=>cases rv;have hq':SqL X.K G1 _ _:=.of hq;obtain⟨its,rvs,p,hz⟩:=I1.list (hq'.mono sub);exact call_enumerate_list p.isList λh' he hi hsz hk=>wpAny_pyIter_enum he (qv I1 (sX _ _) (SqL.lt' I1 (hq'.mono sub)) he hi hk (h1 _ G1 H1 (.refl sub) (ItOk.enum (λG2 H2 s1 s2=>(hq'.mono s1).mono s2) t)))
 |fls hq t=>cases rv;obtain⟨its,rvs,p,hz⟩:=I1.list (hq.mono sub);exact call_enumerate_list p.isList λh' he hi hsz hk=>wpAny_pyIter_enum he (qv I1 (sX _ _) (SqL.lt' I1 (hq.mono sub)) he hi hk (h1 _ G1 H1 (.refl sub) (ItOk.enum (λG2 H2 s1 s2=>(hq.mono s1).mono s2) t)))
 |tup hq t=>cases rv;obtain⟨its,rvs,⟨⟨cls,dd,data,sl⟩,ho,hc,n,hd⟩,hz⟩:=I1.tuple (hq.mono sub);subst hc hd;exact BN ho λh' he hi hsz hk=>wpAny_pyIter_enum he (qv I1 (zD _ _) (SqT.lt' I1 (hq.mono sub)) he ⟨_,hi,rfl,rfl⟩ hk (h1 _ G1 H1 (.refl sub) (ItOk.enum (λG2 H2 s1 s2=>(hq.mono s1).mono s2) t)))
 |_=>exact h1.elim
noncomputable def Jj(ga gb:Ev->R D):Ev->R (List D):=λρ=>ga ρ>>=λx=>gb ρ>>=λc=>Eg x c
end
noncomputable def Hg:List D->Option D
 | [.lst _ ds]=>match pf ds with
  |some ns=>some (.int ns.sum)
  |none=>none
 | [.tup ds]=>match pf ds with
  |some ns=>some (.int ns.sum)
  |none=>none
 |_=>none
theorem Vals.ints:∀{ns:List Int}{its:List Value},Vals (ns.map V.int) its->IntsAre its ns
 | [],_,.nil=>.nil
 |n::ns,_,.cons r t=>by obtain⟨tk,rfl⟩:=r;exact .cons n tk (Vals.ints t)
section
def rS{ns:List Int}(rv:Vals (ns.map V.int) its):∃xs:Array (Int×Tok),its.toArray=intItems xs/\preSum (numAt xs) xs.size=ns.sum:=by
 have hi:=Vals.ints rv;obtain⟨xs,hx⟩:=hi.allInts.items;have e1:ns=xs.toList.map (·.1):=by rw[<- nums_intItems,<- hx];exact(show numsOf its.toArray.toList=ns from hi.numsOf).symm
 exact⟨xs,hx,by rw[preSum_eq,List.take_of_length_le (by simp),e1]⟩
def zB(hc:X.calm=true):lS X (.builtin "sum") (λxs H Q=>∃p,∃ns:List Int,xs=[.ref p]/\(SqL X.K H p (ns.map V.int)\/SqT X.K H p (ns.map V.int))/\Q (.int ns.sum) H):=by
 intro pins s σ H xs us Q I r ⟨p,ns,ex,hs,q⟩;subst ex;obtain⟨u,rfl,r1⟩:=r.one;cases r1;rcases hs with hs|hs
 ·obtain⟨its,rv,pl,hz⟩:=I.list hs;obtain⟨xs,hx,e2⟩:=rS rv;refine sum_intListG (I.ok.hd hc) (hx▸pl.isList) λh' tk t' hk=>?_;rw[e2];exact⟨.int _,H,I.kept hk,⟨_,rfl⟩,q⟩
 ·obtain⟨its,rv,pl,hz⟩:=I.tuple hs;obtain⟨xs,hx,e2⟩:=rS rv;have ht:=pl;refine PySem.W.ktm_sumG (I.ok.hd hc) (hx▸ht) λh' tk t' hk=>?_;rw[e2];exact⟨.int _,H,I.kept hk,⟨_,rfl⟩,q⟩
def EO(K:PySem.W.Frag):KI K (λxs H Q=>∃p,∃ns:List Int,xs=[.ref p]/\(SqL K H p (ns.map V.int)\/SqT K H p (ns.map V.int))/\Q (.int ns.sum) H) Hg:=by
 intro G H xs ds d Q s r e q;unfold Hg at e;split at e
 ·split at e;·rename_i ns hn;cases e;obtain⟨v,rfl,r1⟩:=r.one;obtain⟨a,vs,rfl,hs,rr⟩:=r1.seq_inv;obtain rfl:=rr.nums hn;exact⟨a,ns,rfl,.inl (hs.mono s),q _ G H (.refl s) (.int _)⟩
  ·cases e
 ·split at e;·rename_i ns hn;cases e;obtain⟨v,rfl,r1⟩:=r.one;obtain⟨a,vs,rfl,hs,rr⟩:=r1.tup_inv;obtain rfl:=rr.nums hn;exact⟨a,ns,rfl,.inr (hs.mono s),q _ G H (.refl s) (.int _)⟩
  ·cases e
 ·cases e
def LG{e:Expr}{p:Pos}(hc:X.calm=true)(hg:Gl X "sum")(hm:X.mg "sum"=none)(ha:PFA X [e] gl)(he:starEach [e] X.env=(false,eval e X.env)::starEach [] X.env:=by rfl):
  PF X (.Call (.Name "sum" p) [e] [] pos) (gOf Hg gl):=qK (zB hc) (EO _) hg hm PyProof.Rows.Boot.«sum» ha (by decide) (by decide) he rfl
end
noncomputable def Lv(i j:Nat)(ga:Ev->R D)(gl:Ev->R (List D)):Ev->O:=λρ=>(ga ρ).out ρ λd=>(gl ρ).out ρ λds=>.nx ((ρ.set i (some (.val d))).set j (some (.own ds)))
def Inv.turnedL{σ:List (Option V)}{t':Nat}(I:Inv X pins σ H s)(k:∀b o,b∉ch->s.heap.get? b=some o->h'.get? b=some o)(f:∀b∈ch,oS X pins H b):
  Inv X pins σ H { s with heap:=h',toks:=t' }:=by
 have n1:∀b u,H b=some u->b∉ch:=λb u q z=>by rw[(f b z).1]at q;cases q
 refine I.step (g':=s.gens) (d':=s.drawn) (ch:=ch) (λb hb=>?_) (λb o _ _ hc q _=>k b o hc q) (λb o _ _ hc q _=>⟨o.slots,k b o hc q⟩) (λ_ _ _ _ n=>n) (λb o hc q=>⟨o,k b o hc q⟩) (λ_ _ q=>q) (λ_ _ _ q=>q) (λb ps q=>⟨#[],by rw[q];simp⟩) (λm hm=>?_) (λb u q=>?_) I.bare;·obtain⟨a0,a1,a2,a3,a4,a5⟩:=f b hb;exact⟨a3,a1,a4,a5⟩
 ·obtain⟨o,es,ep,ho,r⟩:=hm;exact⟨o,es,ep,k _ o (λz=>(f _ z).2.1 rfl) ho,r⟩
 ·refine(I.hok b u q).stay (λc v hc q'=>k c v ?_ q') (λ_ q'=>q') λ_ _ q'=>q';rcases hc with z|z;·rw[z];exact n1 b u q
  ·exact n1 c _ z
noncomputable def KJ:D->D->R D
 |.str x,.int k=>if k = -1 then .ok (.str x.reverse)else .no
 |.lst _ xs,.int k=>if k = -1 then .ok (.lst false xs.reverse)else .no
 |_,_=>.no
noncomputable def Oa(ga gs:Ev->R D):Ev->R D:=λρ=>ga ρ>>=λx=>gs ρ>>=λk=>KJ x k
noncomputable def wg(gt:Ev->R Bool)(g:Ev->O):Nat->Ev->O
 | 0,_=>.no
 |n+1,ρ=>(gt ρ).out ρ λk=>if k=true then (match g ρ with
  |.nx ρ2=>wg gt g n ρ2
  |.ct ρ2=>wg gt g n ρ2
  |.bk ρ2=>.nx ρ2
  |.rt d=>.rt d
  |.re d ρ2=>.re d ρ2
  |.ex C ρ2=>.ex C ρ2
  |.no=>.no)else .nx ρ
noncomputable def Ji(n:Nat)(gt:Ev->R Bool)(g:Ev->O):Ev->O:=λρ=>wg gt g n ρ
noncomputable def yx(gs:List (Ev->R D))(ρ:Ev):D->R D
 |.int i=>if 0<=i then (match gs[i.toNat]? with
  |some g=>g ρ
  |none=>.no)else .no
 |_=>.no
noncomputable def L6(gs:List (Ev->R D))(gi:Ev->R D):Ev->R D:=λρ=>gi ρ>>=yx gs ρ
def HN{gi:Ev->R D}:L6 gs gi ρ=gi ρ>>=yx gs ρ:=rfl
def Jq{g:Ev->R D}:yx (g::gs) ρ (.int 0)=g ρ:=rfl
def HF{f g:Ev->R D}:yx (f::g::gs) ρ (.int 1)=g ρ:=rfl
section
variable{a b:Expr}{ga:Ev->R D}
def Bm{z:Str}{l:List Nat}{t:Tok}(hg:Gl X x)(hm:X.mg x=some (.str z t))(hl:z.cps.toList=l:=by rfl)(hz:l.length<=1000:=by decide)(hd:(x==("__debug__":Str))=false:=by decide):PF X (.Name x pos) (λ_=>.ok (.str l)):=
 iK (pI (v:=.str z) hg hm ⟨t,rfl⟩ hd) λ_ _=>.strL hl (Nat.le_trans hz (by decide))
structure KTup(K:PySem.W.Frag)(c:Addr)(ls:List (List Nat)):Prop where
 ex:∃(o:Obj)(its:Array Value)(n:Nat)(vs:List V),K.lookup c=some o/\o.cls=.type "tuple"/\o.data=.seq its n/\its.size<=sizeLine/\Vals vs its.toList/\∀G,Reps K G vs (ls.map .str)
end
noncomputable def N5(n:Nat):List Nat:=(Nat.toDigits 10 n).map Char.toNat
section
variable{a b c e e1 e2 e3 e4 e5:Expr}{ga gc g1 g2' g3' g4 g5:Ev->R D}{p:Pos}
noncomputable def NL:D->R D
 |.int i=>if 0<=i/\i<10000000000 then .ok (.str (N5 i.toNat))else .no
 |.str x=>.ok (.str x)
 |_=>.no
noncomputable def tY:List (Ev->R D)->List Nat->Ev->R D
 | [],out=>λ_=>.ok (.str out)
 |g::gs,out=>λρ=>g ρ>>=λd=>match d with
  |.str x=>if (out++x).length<=sizeLine then tY gs (out++x) ρ else .no
  |_=>.no
noncomputable def LY(gs:List (Ev->R D)):Ev->R D:=tY gs []
end
noncomputable def Lz(j i:Nat)(gl:Ev->R (List D)):Ev->O:=λρ=>(fw (gl (frz j ρ))).out ρ λds=>if ds.all (fl 10)=true then .nx (ρ.set i (some (.own ds)))else .no
section
variable{prog:Program}{w:World}{A:Around}
structure Z3(z TI TO i1 i2 i3 l1 l2 l3:Addr):Prop where
 nd:[z,TI,TO,i1,i2,i3].Nodup
 ap:∀l∈[l1,l2,l3],l∉[z,TO,i1,i2,i3]
end
noncomputable def wt(asg:D->Ev->R Ev)(gt:Ev->R Bool)(ge:Ev->R D):List D->Ev->R (List D)
 | [],_=>.ok []
 |d::ds,ρ=>fw (asg d ρ)>>=λρ1=>fw (gt ρ1)>>=λk=>if k=true then ge ρ1>>=λx=>wt asg gt ge ds ρ1>>=λxs=>.ok (x::xs)else wt asg gt ge ds ρ1
noncomputable def JP(gi:Ev->R (List D))(ix:List Nat)(gt:Ev->R Bool)(ge:Ev->R D):Ev->R (List D):=λρ=>gi ρ>>=λitems=>if items.length<=sizeLine then wt (la 0) gt ge items (jm ix ρ)else .no
section
variable{a b c e ix:Expr}{ga gi:Ev->R D}{p p1 p2 p3 pl sp:Pos}
noncomputable def JC(c:Nat):List Nat->Option (List Nat×List Nat)
 | []=>none
 |d::r=>if d=c then some ([],r)else (JC c r).map λp=>(d::p.1,p.2)
noncomputable def Fj(c:Nat)(x:List Nat):List Nat×List Nat×List Nat:=match JC c x with
 |some (p,q)=>(p,[c],q)
 |none=>(x,[],[])
noncomputable def Mc:D->List D->Option D
 |.str x,[.str [c]]=>if x.length<=10000 then some (.tup [.str (Fj c x).1,.str (Fj c x).2.1,.str (Fj c x).2.2])else none
 |_,_=>none
def Ko{f g h:Ev->R D}:yx (f::g::h::gs) ρ (.int 2)=h ρ:=rfl
end
structure ClOk(N:List Str)(scope:Scope)(cl:List (Str×Addr))(σ:St)(H:Hp)(h:Heap):Prop where
 kind:scope.kind=.function
 nocell:∀y∈scope.names,y.2≠.cell
 inj:∀y z c,cl.lookup y=some c->cl.lookup z=some c->y=z
 has:∀y,scope.names.lookup y=some .free->∃c,cl.lookup y=some c
 cell:∀y c,cl.lookup y=some c->H c=none/\∃v,h.IsCell c v
 val:∀(i:Nat) y v,N[i]?=some y->σ[i]?=some (some v)->∃u c,RelV v u/\scope.names.lookup y=some .free/\cl.lookup y=some c/\h.IsCell c (some u)
 len:σ.length=N.length
section
variable{params:Arguments}{body:Expr}{c P:Addr}{ps:Array Value}{Q:Value->Shared->Prop}
structure Lam(X:Cx)(pins:List (Addr×Obj))(σ:St)(H:Hp)(s:Shared)(params:Arguments)(body:Expr)(scope:Scope)(f:Addr)(cd ctv pm:Value)(H1:Hp)(s1:Shared):Prop where
 inv:Inv X pins σ H1 s1
 hh:Same H H1
 new:∀a,H a=none->H1 a=none\/s.heap.objs.size<=a
 free:H1 f=none
 fn:s1.heap.get? f=some { cls:=.type "function",data:=.func (PySem.W.kla_fn "<lambda>" (X.env.qual++"<lambda>") params body scope (yr X.env scope.names []) pm cd ctv) }
 codeH:∃c o vs t u,cd=.ref c/\H1 c=some (.frz o u)/\o.data=.fields vs/\vs[1]?=some (.str (X.env.qual++"<lambda>") t)
end
structure FnFH(P:Program)(w:World)(K:PySem.W.Frag)(mg:Str->Option Value)(base:Heap)(k:Nat)(f:Addr)(fd:FuncData)(ps:List Str)(g:List D->R D):Prop where
 run:∀(A:Around)(x:Addr)(outer:List Env)(s:Shared)(H:Hp)(args:Args)(us:List Value)(vs:List V)(Q:VK)(E:XK),Room k A->Env0 P w K mg base A outer s H->BindsTo s fd args (ps.zip us)->Vals vs us->(vs.length=ps.length/\spF K g vs H Q E)->
  codeAny (model P w) (A.mark (some (.ref x))) (.call (.ref f) args) (CR (CXo P w) outer P w H s Q E) s
structure CalleeH(P:Program)(w:World)(K:PySem.W.Frag)(mg:Str->Option Value)(base:Heap)(x:Str)(k n:Nat)(g:List D->R D):Prop where
 ex:∃f fd ps,FnFH P w K mg base k f fd ps g/\mg x=some (.ref f)/\PySem.W.keepIn K (.ref f)=true/\Binds K fd ps []/\ps.length=n
noncomputable def JV(P:Program)(w:World)(K:PySem.W.Frag)(mg:Str->Option Value)(base:Heap)(k:Nat)(s1:Shared)(G1 H1:Hp)(f:Addr)(m:R D):Prop:=
 ∀(Y:Cx)(pins:List (Addr×Obj))(σY:St)(G2 H2:Hp)(s2:Shared)(fs:List Addr)(Q:VK),Y.prog=P->Y.w=w->Y.K=K->Y.mg=mg->Y.base=base->Inv Y pins σY H2 s2->Room k Y.A->Un fs [] H1 H2 s1.heap s2.heap->Up G1 H1 G2 H2->
  m.post (Fin G2 H2 (Rep Y.K) Q) (Exx Y σY G2 H2)->(∃o fd,s2.heap.get? f=some o/\o.data=.func fd)/\wpAny (model Y.prog Y.w) Y.A (call (.ref f) []) (EP Y pins σY Q) Y.xe s2
structure Told(P:Program)(w:World)(K:PySem.W.Frag)(mg:Str->Option Value)(base:Heap)(x:Str)(k j:Nat)(g:R D->R D):Prop where
 ex:∃ft,mg x=some (.ref ft)/\PySem.W.keepIn K (.ref ft)=true/\∀(A:Around)(outer:List Env)(s1:Shared)(G1 H1:Hp)(f:Addr)(m:R D)(Q:VK)(E:XK),Room k A->Env0 P w K mg base A outer s1 H1->Same G1 H1->JV P w K mg base j s1 G1 H1 f m->
  (g m).post (Fin G1 H1 (Rep K) Q) (λC=>∀G' H',Up G1 H1 G' H'->E (.ref C) none H')->codeAny (model P w) A (.call (.ref ft) ⟨[.ref f],[]⟩) (CR (CXo P w) outer P w H1 s1 Q E) s1
structure LamAt(X:Cx):Prop where
 ex:∃c P q,X.env.code=.ref c/\(∀h,X.K.In h->PySem.W.CodeHd h c P)/\KA X.base P q/\q=X.env.qual++"<lambda>"/\X.base.BuiltinsAt X.mg P/\mainGlobals≠P
structure LamOk(X:Cx)(scope:Scope)(N':List Str)(ix:List Nat):Prop where
 kind:scope.kind=.function
 co:scope.isCoroutine=false
 gen:scope.isGenerator=false
 cell:∀y∈scope.names,y.2≠.cell
 fr:∀y∈scope.names,y.2=.free->X.env.kindOf y.1=some .cell
 tl:N'=ix.map λ(i:Nat)=>X.N.getD i Str.empty
 lt:∀i∈ix,i<X.N.length
 fre:∀y∈N',scope.names.lookup y=some .free/\(y,NameKind.free)∈scope.names
structure LamDef(K:PySem.W.Frag)(mg:Str->Option Value)(fd:FuncData)(Pt:Addr):Prop where
 ex:∃c,fd.code=.ref c/\∀h,K.In h->PySem.W.CodeHd h c Pt
 ne:mainGlobals≠Pt
structure LamB(K:PySem.W.Frag)(mg:Str->Option Value)(base:Heap)(qual:Str)(fd:FuncData)(Pt:Addr):Prop where
 ld:LamDef K mg fd Pt
 tb:KA base Pt (qual++".<locals>."++"<lambda>")
 bm:base.BuiltinsAt mg Pt
noncomputable def hid(H:Hp)(ow:kj):Hp:=λa=>if (ow a).isSome=true then none else H a
def B0{o:HO}(h:hid H ow a=some o):H a=some o/\ow a=none:=by
 unfold hid at h;split at h;·cases h
 ·rename_i q;exact⟨h,by cases e:ow a with|none=>rfl|some t=>rw[e]at q;exact absurd rfl q⟩
def jE{t:Nat×Nat}(h:ow a=some t):hid H ow a=none:=by unfold hid;rw[h];exact if_pos rfl
def ia(h:ow a=none):hid H ow a=H a:=by unfold hid;rw[h];exact if_neg (by simp)
def GQ(H:Hp)(ow:kj):Same (hid H ow) H:=λa o e=>(B0 e).1
noncomputable def tN(i j:Nat)(ow:kj):kj:=λa=>match ow a with
 |some (i',t)=>if i'=i then some (j,t)else none
 |none=>none
def pP{t:Nat}(h:ow a=some (i,t)):tN i j ow a=some (j,t):=by unfold tN;rw[h];exact if_pos rfl
def Da{t:Nat×Nat}(h:tN i j ow a=some t):ow a=some (i,t.2)/\t.1=j:=by
 unfold tN at h;split at h
 ·rename_i i' t' e;split at h;·rename_i z;subst z;cases h;exact⟨e,rfl⟩
  ·cases h
 ·cases h
section
variable{K:PySem.W.Frag}{H₀:Hp}{m:Bool}{fs:List (Nat×Fd)}
def FdAt.hid{m':Bool}:∀{fd:Fd}{v:V},FdAt K H₀ G H ow i m k fd v->FdAt K (L2.hid H ow) G H ow i m' k fd v
 |.val d,v,r=>r
 |.own ds,v,⟨l,ws,e,h1,h2,h3,h4,h5⟩=>⟨l,ws,e,h1,h2,λ_=>jE h5,h4,h5⟩
theorem FdsAt.hid{m':Bool}:∀{fs:List (Nat×Fd)}{vs:List (Str×V)},FdsAt K H₀ G H ow i m fs vs->FdsAt K (L2.hid H ow) G H ow i m' fs vs
 |_,_,.nil=>.nil
 |_,_,.cons h nk r t=>.cons h nk (FdAt.hid r) (FdsAt.hid t)
def InsAt.hid(h:InsAt K H₀ G H ow i m C p fs)(m':Bool):InsAt K (L2.hid H ow) G H ow i m' C p fs:=by obtain⟨dx,vs,h1,h2,h3,h4,h5,h6,h7,h8⟩:=h;exact⟨dx,vs,h1,h2,h3,h4,λ_=>⟨jE h6,jE h7⟩,h6,h7,h8.hid⟩
def DcoAt.hid(h:DcoAt K H₀ G H ow i m p fs)(m':Bool):DcoAt K (L2.hid H ow) G H ow i m' p fs:=
 let⟨o,xs,ks,ds,h1,h2,h3,h4,h5,h6,h7⟩:=h
 ⟨o,xs,ks,ds,h1,h2,λ_=>jE h4,h4,h5,h6,h7⟩
def ObjAt.hid(h:ObjAt K H₀ G H ow i m C p fs)(m':Bool):ObjAt K (L2.hid H ow) G H ow i m' C p fs:=h.imp (λz=>⟨z.1,z.2.hid m'⟩) λz=>⟨z.1,z.2.hid m'⟩
def FdAt.ro{H₀':Hp}:∀{fd:Fd}{v:V},FdAt K H₀ G H ow i m k fd v->FdAt K H₀' G H ow i false k fd v
 |.val d,v,r=>r
 |.own ds,v,⟨l,ws,e,h1,h2,h3,h4,h5⟩=>⟨l,ws,e,h1,h2,λz=>absurd z (by decide),h4,h5⟩
theorem FdsAt.ro{H₀':Hp}:∀{fs:List (Nat×Fd)}{vs:List (Str×V)},FdsAt K H₀ G H ow i m fs vs->FdsAt K H₀' G H ow i false fs vs
 |_,_,.nil=>.nil
 |_,_,.cons h nk r t=>.cons h nk (FdAt.ro r) (FdsAt.ro t)
def InsAt.ro(h:InsAt K H₀ G H ow i m C p fs)(H₀':Hp):InsAt K H₀' G H ow i false C p fs:=by obtain⟨dx,vs,h1,h2,h3,h4,h5,h6,h7,h8⟩:=h;exact⟨dx,vs,h1,h2,h3,h4,λz=>absurd z (by decide),h6,h7,h8.ro⟩
def DcoAt.ro(h:DcoAt K H₀ G H ow i m p fs)(H₀':Hp):DcoAt K H₀' G H ow i false p fs:=
 let⟨o,xs,ks,ds,h1,h2,h3,h4,h5,h6,h7⟩:=h
 ⟨o,xs,ks,ds,h1,h2,λz=>(nomatch z),h4,h5,h6,h7⟩
def ObjAt.ro(h:ObjAt K H₀ G H ow i m C p fs)(H₀':Hp):ObjAt K H₀' G H ow i false C p fs:=h.imp (λz=>⟨z.1,z.2.ro H₀'⟩) λz=>⟨z.1,z.2.ro H₀'⟩
end
noncomputable def dl(m:Bool)(C p:Addr)(fs:List (Nat×Fd))(n:Nat)(ds:List D):Ev:=some (.obj m C p fs)::(ds.map (λd=>some (.val d))++List.replicate (n - (ds.length+1)) none)
def sY{K:PySem.W.Frag}{H₀:Hp}{m:Bool}{fs:List (Nat×Fd)}{N:List Str}{us:List V}(sub0:Same G H₀)(up:Up G H₀ G H)(r:Reps K G us ds)(ob:ObjAt K H₀ G H ow 0 m C p fs):
  StR K G H₀ G H (start N (.ref p::us)) (dl m C p fs N.length ds):=by
 have hl:=r.length;have get:∀(i:Nat) x,(dl m C p fs N.length ds)[i]?=some (some x)->(i=0/\x=.obj m C p fs)\/∃k d,i=k+1/\ds[k]?=some d/\x=.val d:=λi x e=>by
  cases i with
  |zero=>left;cases e;exact⟨rfl,rfl⟩
  |succ k=>
   right;unfold dl at e;rw[List.getElem?_cons_succ]at e;by_cases hi:k<ds.length
   ·rw[List.getElem?_append_left (by simpa using hi),List.getElem?_map]at e;cases q:ds[k]? with
    |none=>rw[q]at e;cases e
    |some d=>rw[q]at e;cases e;exact⟨k,d,rfl,q,rfl⟩
   ·rw[List.getElem?_append_right (by simpa using hi),List.getElem?_replicate]at e;split at e <;> cases e
 have obs:ObSt K H₀ G H (start N (.ref p::us)) (dl m C p fs N.length ds):=by
  refine⟨ow,λi es l e=>?_,λi m' C' p' fs' e=>?_⟩;·rcases get i _ e with⟨_,z⟩|⟨k,d,_,_,z⟩ <;> cases z
  ·rcases get i _ e with⟨rfl,z⟩|⟨k,d,_,_,z⟩;·cases z;exact⟨rfl,ob⟩
   ·cases z
 refine⟨⟨up.sub,?_,λi d e=>?_,obs.rd⟩,sub0,up,λi es e=>?_,λi j es fs l e=>?_,obs⟩;·simp[start,dl,hl]
 ·rcases get i _ e with⟨_,z⟩|⟨k,d',rfl,e',z⟩;·cases z
  ·cases z;obtain⟨v,ev,rv⟩:=r.get e';refine⟨v,?_,rv⟩;unfold start;rw[List.map_cons,List.cons_append,List.getElem?_cons_succ,List.getElem?_append_left (by have:=(List.getElem?_eq_some_iff.mp ev).1;simpa using this),List.getElem?_map,ev];rfl
 ·rcases get i _ e with⟨_,z⟩|⟨k,d,_,_,z⟩ <;> cases z
 ·rcases get i _ e with⟨_,z⟩|⟨k,d,_,_,z⟩ <;> cases z
inductive RM where
 |ok (d:D) (fs:List (Nat×Fd))|rd (d:D)|ex (C:Addr)|no
noncomputable abbrev MF:=List (Nat×Fd)->List D->RM
noncomputable def dc(C:Addr)(g:Ev->O)(n:Nat)(F:MF):Prop:=∀p fs ds,match F fs ds with
 |.ok d fs'=>∃ρ',ρ'[0]?=some (some (.obj true C p fs'))/\(g (dl true C p fs n ds)=.re d ρ'\/(g (dl true C p fs n ds)=.nx ρ'/\d=.non))
 |.rd d=>g (dl false C p fs n ds)=.rt d
 |.ex E=>∃ρ',g (dl false C p fs n ds)=.ex E ρ'
 |.no=>True
noncomputable def spM(K:PySem.W.Frag)(C:Addr)(F:MF):Sp:=λvs H Q E=>∃G p us ds fs ow,vs=.ref p::us/\Reps K G us ds/\Same G H/\(∀a t,ow a=some t->G a=none)/\ObjAt K (λ_=>none) G H ow 0 true C p fs/\match F fs ds with
 |.ok d fs'=>∀v G' H' ow',Up G (hid H ow) G' H'->ObjAt K (hid H ow) G' H' ow' 0 true C p fs'->Rep K G' v d->Q v H'
 |.rd d=>∀v G' H',Up G H G' H'->Rep K G' v d->Q v H'
 |.ex C'=>∀G' H',Up G H G' H'->E (.ref C') none H'
 |.no=>False
noncomputable abbrev FnM(P:Program)(w:World)(K:PySem.W.Frag)(mg:Str->Option Value)(base:Heap)(k:Nat)(f:Addr)(fd:FuncData)(ps:List Str)(C:Addr)(F:MF):Prop:=FnOk P w K mg base (CXo P w) k f fd ps (λvs H Q E=>vs.length=ps.length/\spM K C F vs H Q E)
def HW(sub:Same G H)(hg:∀a t,ow a=some t->G a=none):Same G (hid H ow)/\Up G (hid H ow) G H:=by
 have s:Same G (hid H ow):=λa o e=>by
  cases q:ow a with
  |none=>rw[ia q];exact sub a o e
  |some t=>rw[hg a t q]at e;cases e
 exact⟨s,sub,.refl _,GQ H ow,λ_ _ e=>.inl e⟩
def Fun.okM{w:World}{K:PySem.W.Frag}{mg:Str->Option Value}{base:Heap}{N:List Str}{F:MF}(Fn:Fun K x qual st f fd)(S:FnScope N ps (ah st))(ok:dc C g N.length F)(hbody:∀(cdv:Value)(A:Around)(outer:List Env)(s:Shared)(H:Hp)(E:XK),Room k (A.deeper (envOfC qual (ah st) s.heap.objs.size f cdv))->lV (hU (CXo P w) P w K mg base N qual (ah st) f cdv A outer s H E) (aZ st) g):
  FnM P w K mg base (k+1) f fd ps C F:=by
 obtain⟨oc,od,kV,doc,pm,an,cdv,ct,osl,rfl,lk,hcd⟩:=Fn.ex;refine GN lk hcd S (λvs H Q E h=>h.1) λA outer s H vs Q E hr hsp=>?_;obtain⟨hl,G,p,us,ds,fs,ow,rfl,r,sub,og,ob,h⟩:=hsp;have o:=ok p fs ds;have rdo:StR K G H G H (start N (.ref p::us)) (dl false C p fs N.length ds):=sY sub (.refl sub) r (ob.ro H);cases q:F fs ds with
 |no=>rw[q]at h;exact h.elim
 |rd d=>rw[q]at h o;refine⟨_,hbody cdv A outer s H E hr G H,G,_,rdo,?_⟩;rw[o];exact λv G' H' u rv=>h v G' H' u rv
 |ex C'=>rw[q]at h o;obtain⟨ρ',o⟩:=o;refine⟨_,hbody cdv A outer s H E hr G H,G,_,rdo,?_⟩;rw[o];exact λe s' fl=>qt fl h
 |ok d fs'=>
  rw[q]at h o;obtain⟨ρ',e0,o⟩:=o;obtain⟨s0,u0⟩:=HW sub og;refine⟨_,hbody cdv A outer s H E hr G (hid H ow),G,dl true C p fs N.length ds,sY s0 u0 r (ob.hid true),?_⟩;have fin:∀σ G' H',StR K G (hid H ow) G' H' σ ρ'->∃ow',ObjAt K (hid H ow) G' H' ow' 0 true C p fs':=λσ G' H' sr=>by obtain⟨ow',_,o2⟩:=sr.ob;exact⟨ow',(o2 0 true C p fs' e0).2⟩
  rcases o with o|⟨o,rfl⟩;·rw[o];intro v σ G' H' sr rv;obtain⟨ow',z⟩:=fin σ G' H' sr;exact h v G' H' ow' sr.up z rv
  ·rw[o];intro σ G' H' sr;obtain⟨ow',z⟩:=fin σ G' H' sr;exact h .non G' H' ow' sr.up z .non
noncomputable def nU(i:Nat)(m:Bool)(H₀ G H:Hp)(ow:kj):kj:=λa=>open Classical in if (∃o,H a=some o)/\G a=none/\(m=true->H₀ a=none)then tN i 0 ow a else none
section
variable{K:PySem.W.Frag}{H₀:Hp}{m:Bool}{fs:List (Nat×Fd)}
def oY{t:Nat}{o:HO}(h:ow a=some (i,t))(e:H a=some o)(g:G a=none)(z:m=true->H₀ a=none):nU i m H₀ G H ow a=some (0,t):=by unfold nU;rw[if_pos ⟨⟨o,e⟩,g,z⟩];exact pP h
def jl{t:Nat×Nat}(h:nU i m H₀ G H ow a=some t):ow a=some (i,t.2)/\(∃o,H a=some o)/\G a=none/\(m=true->H₀ a=none):=by
 unfold nU at h;split at h;·rename_i q;exact⟨(Da h).1,q⟩
 ·cases h
def FdAt.cut:∀{fd:Fd}{v:V},FdAt K H₀ G H ow i m k fd v->FdAt K (λ_=>none) G H (nU i m H₀ G H ow) 0 true k fd v
 |.val d,v,r=>r
 |.own ds,v,⟨l,ws,e,h1,h2,h3,h4,h5⟩=>⟨l,ws,e,h1,h2,λ_=>rfl,h4,oY h5 h1 h2 h3⟩
theorem FdsAt.cut:∀{fs:List (Nat×Fd)}{vs:List (Str×V)},FdsAt K H₀ G H ow i m fs vs->FdsAt K (λ_=>none) G H (nU i m H₀ G H ow) 0 true fs vs
 |_,_,.nil=>.nil
 |_,_,.cons h nk r t=>.cons h nk (FdAt.cut r) (FdsAt.cut t)
def InsAt.cut(h:InsAt K H₀ G H ow i m C p fs):InsAt K (λ_=>none) G H (nU i m H₀ G H ow) 0 true C p fs:=by obtain⟨dx,vs,h1,h2,h3,h4,h5,h6,h7,h8⟩:=h;exact⟨dx,vs,h1,h2,h3,h4,λ_=>⟨rfl,rfl⟩,oY h6 h1 h3 λz=>(h5 z).1,oY h7 h2 h4 λz=>(h5 z).2,h8.cut⟩
def DcoAt.cut(h:DcoAt K H₀ G H ow i m p fs):DcoAt K (λ_=>none) G H (nU i m H₀ G H ow) 0 true p fs:=
 let⟨o,xs,ks,ds,h1,h2,h3,h4,h5,h6,h7⟩:=h
 ⟨o,xs,ks,ds,h1,h2,λ_=>rfl,oY h4 h1 h2 h3,h5,h6,h7⟩
def ObjAt.cut(h:ObjAt K H₀ G H ow i m C p fs):ObjAt K (λ_=>none) G H (nU i m H₀ G H ow) 0 true C p fs:=h.imp (λz=>⟨z.1,z.2.cut⟩) λz=>⟨z.1,z.2.cut⟩
end
section
variable{K:PySem.W.Frag}{H₀ H₀':Hp}{ow2:kj}
def FdAt.newtag(h:∀a t,ow a=some (0,t)->H₀ a=none->ow2 a=some (i,t))(z:∀a,H₀ a=none->H₀' a=none):∀{fd:Fd}{v:V},FdAt K H₀ G H ow 0 true k fd v->FdAt K H₀' G H ow2 i true k fd v
 |.val d,v,r=>r
 |.own ds,v,⟨l,ws,e,h1,h2,h3,h4,h5⟩=>⟨l,ws,e,h1,h2,λ_=>z l (h3 rfl),h4,h l _ h5 (h3 rfl)⟩
theorem FdsAt.newtag(h:∀a t,ow a=some (0,t)->H₀ a=none->ow2 a=some (i,t))(z:∀a,H₀ a=none->H₀' a=none):∀{fs:List (Nat×Fd)}{vs:List (Str×V)},FdsAt K H₀ G H ow 0 true fs vs->FdsAt K H₀' G H ow2 i true fs vs
 |_,_,.nil=>.nil
 |_,_,.cons k nk r t=>.cons k nk (FdAt.newtag h z r) (FdsAt.newtag h z t)
def InsAt.newtag{fs:List (Nat×Fd)}(h:∀a t,ow a=some (0,t)->H₀ a=none->ow2 a=some (i,t))(z:∀a,H₀ a=none->H₀' a=none)(o:InsAt K H₀ G H ow 0 true C p fs):InsAt K H₀' G H ow2 i true C p fs:=by obtain⟨dx,vs,h1,h2,h3,h4,h5,h6,h7,h8⟩:=o;exact⟨dx,vs,h1,h2,h3,h4,λ_=>⟨z p (h5 rfl).1,z dx (h5 rfl).2⟩,h p _ h6 (h5 rfl).1,h dx _ h7 (h5 rfl).2,h8.newtag h z⟩
def DcoAt.newtag{fs:List (Nat×Fd)}(h:∀a t,ow a=some (0,t)->H₀ a=none->ow2 a=some (i,t))(z:∀a,H₀ a=none->H₀' a=none)(o:DcoAt K H₀ G H ow 0 true p fs):DcoAt K H₀' G H ow2 i true p fs:=
 let⟨o,xs,ks,ds,h1,h2,h3,h4,h5,h6,h7⟩:=o
 ⟨o,xs,ks,ds,h1,h2,λ_=>z p (h3 rfl),h p 0 h4 (h3 rfl),h5,h6,h7⟩
def ObjAt.newtag{fs:List (Nat×Fd)}(h:∀a t,ow a=some (0,t)->H₀ a=none->ow2 a=some (i,t))(z:∀a,H₀ a=none->H₀' a=none)(o:ObjAt K H₀ G H ow 0 true C p fs):ObjAt K H₀' G H ow2 i true C p fs:=o.imp (λy=>⟨y.1,y.2.newtag h z⟩) λy=>⟨y.1,y.2.newtag h z⟩
end
def StR.meth{K:PySem.W.Frag}{H₀ G':Hp}{fs:List (Nat×Fd)}{ow':kj}(s:StR K G₀ H₀ G H σ ρ)(e:ρ[i]?=some (some (.obj true C p fs)))(o1:∀(j:Nat) ds l,ρ[j]?=some (some (.own ds))->σ[j]?=some (some (.ref l))->ow l=some (j,0))(o2:∀(j:Nat) m C p fs,ρ[j]?=some (some (.obj m C p fs))->σ[j]?=some (some (.ref p))/\ObjAt K H₀ G H ow j m C p fs)(u:Up G (hid H (nU i true H₀ G H ow)) G' H')(ob:ObjAt K (hid H (nU i true H₀ G H ow)) G' H' ow' 0 true C p fs'):StR K G₀ H₀ G' H' σ (ρ.set i (some (.obj true C p fs'))):=by
 have hl:i<ρ.length:=(List.getElem?_eq_some_iff.mp e).1;have get:∀(j:Nat) x,(ρ.set i (some (.obj true C p fs')))[j]?=some (some x)->(j=i/\x=.obj true C p fs')\/(j≠i/\ρ[j]?=some (some x)):=λj x h=>by
  by_cases z:i=j;·subst z;rw[List.getElem?_set_self hl]at h;exact .inl ⟨rfl,by injection (Option.some.inj h)with q;exact q.symm⟩
  ·rw[List.getElem?_set_ne z]at h;exact .inr ⟨λq=>z q.symm,h⟩
 have keep:∀a o,H a=some o->nU i true H₀ G H ow a=none->H' a=some o:=λa o q n=>u.hh a o (by rw[ia n];exact q);have out0:∀a,H₀ a≠none->nU i true H₀ G H ow a=none:=λa q=>by
  cases z:nU i true H₀ G H ow a with
  |none=>rfl
  |some t=>exact absurd ((jl z).2.2.2 rfl) q
 have outT:∀a j t,j≠i->ow a=some (j,t)->nU i true H₀ G H ow a=none:=λa j t nj q=>by
  cases z:nU i true H₀ G H ow a with
  |none=>rfl
  |some t'=>have:=(jl z).1;rw[q]at this;cases this;exact absurd rfl nj
 have gn:∀a o,H a=some o->G a=none->nU i true H₀ G H ow a=none->G' a=none:=λa o q g n=>by
  cases z:G' a with
  |none=>rfl
  |some o'=>
   rcases u.fr a o' z with z|z;·rw[g]at z;cases z
   ·rw[ia n,q]at z;cases z
 have up:Up G₀ H₀ G' H':=by
  refine⟨u.sub,s.up.gg.trans u.gg,λa o q=>keep a o (s.up.hh a o q) (out0 a (by rw[q];simp)),λa o q=>?_⟩;rcases u.fr a o q with z|z;·exact s.up.fr a o z
  ·by_cases n:nU i true H₀ G H ow a=none;·rw[ia n]at z;exact .inr (s.up.hh.free z)
   ·cases y:nU i true H₀ G H ow a with
    |none=>exact absurd y n
    |some t=>exact .inr ((jl y).2.2.2 rfl)
 have ob':ObSt K H₀ G' H' σ (ρ.set i (some (.obj true C p fs'))):=by
  refine⟨λa=>open Classical in if hid H (nU i true H₀ G H ow) a=none then tN 0 i ow' a else ow a,λj ds l h1 h2=>?_,λj m' C' p' fs'' h1=>?_⟩
  ·rcases get j _ h1 with⟨_,z⟩|⟨nj,f1⟩;·cases z
   ·have ol:=o1 j ds l f1 h2;obtain⟨l2,vs,q1,q2,_⟩:=s.own j ds f1;rw[h2]at q1;cases q1;have n:=outT l j 0 nj ol;refine(if_neg ?_).trans ol;rw[ia n,q2];simp
  ·rcases get j _ h1 with⟨rfl,z⟩|⟨nj,f1⟩
   ·cases z;refine⟨(o2 j true C p fs e).1,?_⟩;refine ob.newtag (λa t q n=>(if_pos n).trans (pP q)) λa n=>?_;by_cases y:nU j true H₀ G H ow a=none;·rw[ia y]at n;exact s.up.hh.free n
    ·cases y':nU j true H₀ G H ow a with
     |none=>exact absurd y' y
     |some t=>exact(jl y').2.2.2 rfl
   ·refine⟨(o2 j m' C' p' fs'' f1).1,(o2 j m' C' p' fs'' f1).2.keep ⟨λa t o q1 q=>keep a o q (outT a j t nj q1),u.gg,λa t o q1 q n=>gn a o q n (outT a j t nj q1),λa t o q1 q=>?_,λa o _ _ n=>n⟩⟩;refine(if_neg ?_).trans q1;rw[ia (outT a j t nj q1),q];simp
 refine⟨⟨u.sub,by simp[s.e.len],λj d h=>?_,ob'.rd⟩,s.sub0,up,λj ds h=>?_,λj k ds es l q1 q2 q3 q4=>?_,ob'⟩
 ·rcases get j _ h with⟨_,z⟩|⟨_,f1⟩;·cases z
  ·obtain⟨v,p1,p2⟩:=s.e.val j d f1;exact⟨v,p1,p2.mono u.gg⟩
 ·rcases get j _ h with⟨_,z⟩|⟨nj,f1⟩;·cases z
  ·obtain⟨l,vs,p1,p2,p3,p4,p5⟩:=s.own j ds f1;have n:=outT l j 0 nj (o1 j ds l f1 p1);exact⟨l,vs,p1,keep l _ p2 n,gn l _ p2 p3 n,p4,p5.mono u.gg⟩
 ·rcases get j _ q1 with⟨_,z⟩|⟨nj,f1⟩;·cases z
  ·rcases get k _ q2 with⟨_,z⟩|⟨nk,f2⟩;·cases z
   ·exact s.inj j k ds es l f1 f2 q3 q4
end L2
variable{F I_offer_with_order av aA bG:L2.MF}
namespace L2
open PySem PySem.Spec PyProof.Rows
def lM:∀j,j<fnames.length->∀k,k<fnames.length->dg j=dg k->j=k:=by decide +kernel
noncomputable def jG(k:Nat)(fd:Fd):List (Nat×Fd)->List (Nat×Fd)
 | []=>[(k,fd)]
 | (j,x)::r=>if j=k then (j,fd)::r else (j,x)::jG k fd r
theorem nM{k j:Nat}{fd:Fd}(h:j≠k):∀{fs:List (Nat×Fd)},fs.lookup j=none->(jG k fd fs).lookup j=none
 | [],_=>by
  have z:(j==k)=false:=by simp[h]
  simp only[jG,List.lookup_cons,z,List.lookup_nil]
 | (a,x)::r,e=>by
  have ha:(j==a)=false:=by
   cases q:j==a with
   |false=>rfl
   |true=>simp only[List.lookup_cons,q]at e;cases e
  have er:r.lookup j=none:=by simpa only[List.lookup_cons,ha]using e
  unfold jG;by_cases z:a=k;·rw[if_pos z];simpa only[List.lookup_cons,ha]using er
  ·rw[if_neg z];simp only[List.lookup_cons,ha];exact nM h er
section
variable{K:PySem.W.Frag}{H₀:Hp}{m:Bool}
theorem FdsAt.keys:∀{fs:List (Nat×Fd)}{vs:List (Str×V)},FdsAt K H₀ G H ow i m fs vs->∀j fd,fs.lookup j=some fd->j<fnames.length
 |_,_,.nil,j,fd,e=>by simp at e
 |_,_,.cons (k:=a) h nk r t,j,fd,e=>by
  cases q:j==a with
  |true=>rw[beq_iff_eq.mp q];exact h
  |false=>simp only[List.lookup_cons,q]at e;exact FdsAt.keys t j fd e
theorem FdsAt.get:∀{fs:List (Nat×Fd)}{vs:List (Str×V)}{fd:Fd},FdsAt K H₀ G H ow i m fs vs->fs.lookup k=some fd->∃v,vs.lookup (dg k)=some v/\FdAt K H₀ G H ow i m k fd v
 |_,_,_,.nil,e=>by simp at e
 |_,_,fd,.cons (k:=a) h nk r t,e=>by
  cases q:k==a with
  |true=>have z:=beq_iff_eq.mp q;subst z;simp only[List.lookup_cons,q]at e;cases e;exact⟨_,by simp[List.lookup_cons],r⟩
  |false=>
   simp only[List.lookup_cons,q]at e;obtain⟨v,e1,e2⟩:=FdsAt.get t e;have hk:=t.keys k fd e;have ne:(dg k==dg a)=false:=by
    cases z:dg k==dg a with
    |false=>rfl
    |true=>have:=lM k hk a h (eq_of_beq z);rw[this]at q;simp at q
   exact⟨v,by simp only[List.lookup_cons,ne];exact e1,e2⟩
theorem FdsAt.put{fd:Fd}(hk:k<fnames.length)(r:FdAt K H₀ G H ow i m k fd v):∀{fs:List (Nat×Fd)}{vs:List (Str×V)},FdsAt K H₀ G H ow i m fs vs->FdsAt K H₀ G H ow i m (jG k fd fs) (pT (dg k) v vs)
 |_,_,.nil=>.cons hk rfl r .nil
 |_,_,.cons (k:=a) h nk r' t=>by
  unfold jG pT;by_cases z:a=k;·subst z;rw[if_pos rfl,if_pos rfl];exact .cons h nk r t
  ·rw[if_neg z,if_neg (λq=>z (lM a h k hk q))];exact .cons h (nM (λq=>z q) nk) r' (FdsAt.put hk r t)
theorem FdsAt.len:∀{fs:List (Nat×Fd)}{vs:List (Str×V)},FdsAt K H₀ G H ow i m fs vs->vs.length=fs.length
 |_,_,.nil=>rfl
 |_,_,.cons h nk r t=>by simp[FdsAt.len t]
theorem FdsAt.keepL{ow2:kj}(h:∀l ws,H l=some (.lst ws)->H' l=some (.lst ws)/\ow2 l=ow l):∀{fs:List (Nat×Fd)}{vs:List (Str×V)},FdsAt K H₀ G H ow i m fs vs->FdsAt K H₀ G H' ow2 i m fs vs
 |_,_,.nil=>.nil
 |_,_,.cons (fd:=fd) hk nk r t=>.cons hk nk (by
   cases fd with
   |val d=>exact r
   |own ds=>obtain⟨l,ws,e,h1,h2,h3,h4,h5⟩:=r;exact⟨l,ws,e,(h l ws h1).1,h2,h3,h4,by rw[(h l ws h1).2];exact h5⟩) (FdsAt.keepL h t)
theorem FdsAt.mutL{l:Addr}{us:List V}{es:List D}(re:Reps K G us es)(ol:ow l=some (i,k+1))(gl:G l=none)(hl:m=true->H₀ l=none):∀{fs:List (Nat×Fd)}{vs:List (Str×V)}{ds:List D},FdsAt K H₀ G H ow i m fs vs->fs.lookup k=some (.own ds)->vs.lookup (dg k)=some (.ref l)->
  FdsAt K H₀ G (upd H l (.lst us)) ow i m (jG k (.own es) fs) vs
 |_,_,_,.nil,e,_=>by simp at e
 |_,_,ds,.cons (k:=a) (v:=v) (fs:=fs) (vs:=vs) h nk r t,e,e2=>by
  have stay:∀{j:Nat}{fd:Fd}{v:V},j≠k->FdAt K H₀ G H ow i m j fd v->FdAt K H₀ G (upd H l (.lst us)) ow i m j fd v:=λ{j fd v} nj q=>by
   cases fd with
   |val d=>exact q
   |own ds=>obtain⟨l',ws,e,h1,h2,h3,h4,h5⟩:=q;refine⟨l',ws,e,?_,h2,h3,h4,h5⟩;rw[aw];exact h1;intro z;rw[z,ol]at h5;cases h5;exact nj rfl
  have stays:∀{fs:List (Nat×Fd)}{vs:List (Str×V)},fs.lookup k=none->FdsAt K H₀ G H ow i m fs vs->FdsAt K H₀ G (upd H l (.lst us)) ow i m fs vs:=by
   intro fs vs n q;induction q with
   |nil=>exact .nil
   | @cons b fd' v' fs' vs' h' nk' r' t' ih=>
    have nb:(k==b)=false:=by
     cases z:k==b with
     |false=>rfl
     |true=>simp only[List.lookup_cons,z]at n;cases n
    have nt:fs'.lookup k=none:=by simpa only[List.lookup_cons,nb]using n
    exact .cons h' nk' (stay (λz=>by rw[z]at nb;simp at nb) r') (ih nt)
  unfold jG;by_cases z:a=k
  ·subst z;rw[if_pos rfl];have ev:v=.ref l:=by simpa[List.lookup_cons]using e2
   subst ev;exact .cons h nk ⟨l,us,rfl,aF,gl,hl,re,ol⟩ (stays nk t)
  ·rw[if_neg z];have q1:(k==a)=false:=by simp;exact λq=>z q.symm
   have e':fs.lookup k=some (.own ds):=by simpa only[List.lookup_cons,q1]using e
   have hk:=t.keys k _ e';have q2:(dg k==dg a)=false:=by
    cases y:dg k==dg a with
    |false=>rfl
    |true=>exact absurd (lM k hk a h (eq_of_beq y)) λq=>z q.symm
   have e2':vs.lookup (dg k)=some (.ref l):=by simpa only[List.lookup_cons,q2]using e2
   exact .cons h (nM z nk) (stay z r) (FdsAt.mutL re ol gl hl t e' e2')
end
def StR.objTo{K:PySem.W.Frag}{H₀:Hp}{fs:List (Nat×Fd)}{ow2:kj}(s:StR K G₀ H₀ G H σ ρ)(e:ρ[i]?=some (some (.obj true C p fs)))(o1:∀(j:Nat) ds l,ρ[j]?=some (some (.own ds))->σ[j]?=some (some (.ref l))->ow l=some (j,0))(o2:∀(j:Nat) m C p fs,ρ[j]?=some (some (.obj m C p fs))->σ[j]?=some (some (.ref p))/\ObjAt K H₀ G H ow j m C p fs)(hh:∀a o,H a=some o->(∀t,ow a≠some (i,t))->H' a=some o)(h0:Same H₀ H')(sub:Same G H')(oo:∀a j t o,j≠i->ow a=some (j,t)->H a=some o->ow2 a=some (j,t))(ob:ObjAt K H₀ G H' ow2 i true C p fs'):StR K G₀ H₀ G H' σ (ρ.set i (some (.obj true C p fs'))):=by
 have hl:=(List.getElem?_eq_some_iff.mp e).1;have get:∀(j:Nat) x,(ρ.set i (some (.obj true C p fs')))[j]?=some (some x)->(j=i/\x=.obj true C p fs')\/(j≠i/\ρ[j]?=some (some x)):=λj x h=>by
  by_cases z:i=j;·subst z;rw[List.getElem?_set_self hl]at h;exact .inl ⟨rfl,by injection (Option.some.inj h)with q;exact q.symm⟩
  ·rw[List.getElem?_set_ne z]at h;exact .inr ⟨λq=>z q.symm,h⟩
 have ob':ObSt K H₀ G H' σ (ρ.set i (some (.obj true C p fs'))):=by
  refine⟨ow2,λj ds l h1 h2=>?_,λj m' C' p' fs'' h1=>?_⟩
  ·rcases get j _ h1 with⟨_,z⟩|⟨nj,f1⟩;·cases z
   ·obtain⟨l2,vs,q1,q2,_⟩:=s.own j ds f1;rw[h2]at q1;cases q1;exact oo l j 0 _ nj (o1 j ds l f1 h2) q2
  ·rcases get j _ h1 with⟨rfl,z⟩|⟨nj,f1⟩;·cases z;exact⟨(o2 j true C p fs e).1,ob⟩
   ·exact⟨(o2 j m' C' p' fs'' f1).1,(o2 j m' C' p' fs'' f1).2.keep ⟨λa t o q1 q=>hh a o q (λt' z=>by rw[q1]at z;cases z;exact nj rfl),.refl _,λa t o _ _ n=>n,λa t o q1 q=>oo a j t o nj q1 q,λa o _ _ n=>n⟩⟩
 refine⟨⟨sub,by simp[s.e.len],λj d h=>?_,ob'.rd⟩,s.sub0,⟨sub,s.up.gg,h0,s.up.fr⟩,λj ds h=>?_,λj k ds es l q1 q2 q3 q4=>?_,ob'⟩
 ·rcases get j _ h with⟨_,z⟩|⟨_,f1⟩;·cases z
  ·exact s.e.val j d f1
 ·rcases get j _ h with⟨_,z⟩|⟨nj,f1⟩;·cases z
  ·obtain⟨l,vs,p1,p2,p3,p4,p5⟩:=s.own j ds f1;exact⟨l,vs,p1,hh l _ p2 (λt z=>by rw[o1 j ds l f1 p1]at z;cases z;exact nj rfl),p3,p4,p5⟩
 ·rcases get j _ q1 with⟨_,z⟩|⟨nj,f1⟩;·cases z
  ·rcases get k _ q2 with⟨_,z⟩|⟨nk,f2⟩;·cases z
   ·exact s.inj j k ds es l f1 f2 q3 q4
section
variable{K:PySem.W.Frag}{H₀:Hp}{dx:Addr}{fs:List (Nat×Fd)}{vs:List (Str×V)}
def StR.fmut(s:StR K G₀ H₀ G H σ ρ)(e:ρ[i]?=some (some (.obj true C p fs))){es:List D}{us:List V}(ek:fs.lookup k=some (.own ds))(re:Reps K G us es){l:Addr}(hp:H p=some (.ins C dx vs))(el:vs.lookup (dg k)=some (.ref l)):
  StR K G₀ H₀ G (upd H l (.lst us)) σ (ρ.set i (some (.obj true C p (jG k (.own es) fs)))):=by
 obtain⟨ow,o1,o2⟩:=s.ob;obtain⟨hne,dx',vs',h1,h2,h3,h4,h5,h6,h7,h8⟩:=(o2 i true C p fs e).2.insH hp;rw[hp]at h1;cases h1;obtain⟨v,e1,l',ws,ev,g1,g2,g3,g4,g5⟩:=h8.get ek;rw[el]at e1;cases e1;cases ev;have np:∀{a:Addr}{o:HO},H a=some o->(∀xs,o≠.lst xs)->a≠l:=λq n z=>by rw[z,g1]at q;cases q;exact n _ rfl
 refine s.objTo e o1 o2 (λa o q n=>?_) (λa o q=>?_) (λa o q=>?_) (λa j t o _ q _=>q) ?_;·rw[aw (λz=>n _ (z▸g5))];exact q
 ·rw[aw (λz=>by rw[z,g3 rfl]at q;cases q)];exact s.up.hh a o q
 ·rw[aw (λz=>by rw[z,g2]at q;cases q)];exact s.e.sub a o q
 ·refine .inl ⟨hne,dx,vs,?_,?_,h3,h4,h5,h6,h7,h8.mutL re g5 g2 g3 ek el⟩;·rw[aw (np hp λ_ z=>by cases z)];exact hp
  ·rw[aw (np h2 λ_ z=>by cases z)];exact h2
def StR.fputL(s:StR K G₀ H₀ G H σ ρ)(e:ρ[i]?=some (some (.obj true C p fs)))(hk:k<fnames.length){l:Addr}{us:List V}(hl:H l=none)(r:Reps K G us ds)(hp:H p=some (.ins C dx vs)):
  StR K G₀ H₀ G (upd (upd H l (.lst us)) p (.ins C dx (pT (dg k) (.ref l) vs))) σ (ρ.set i (some (.obj true C p (jG k (.own ds) fs)))):=by
 obtain⟨ow,o1,o2⟩:=s.ob;obtain⟨hne,dx',vs',h1,h2,h3,h4,h5,h6,h7,h8⟩:=(o2 i true C p fs e).2.insH hp;rw[hp]at h1;cases h1;have nl:∀{a:Addr}{o:HO},H a=some o->a≠l:=λq z=>by rw[z,hl]at q;cases q
 have gl:=s.e.sub.free hl;have h0l:=s.up.hh.free hl;refine s.objTo e o1 o2 (ow2:=λa=>if a=l then some (i,k+1)else ow a) (λa o q n=>?_) (λa o q=>?_) (λa o q=>?_) (λa j t o _ q q2=>(if_neg (nl q2)).trans q) ?_;·rw[aw (λz=>n _ (z▸h6)),aw (nl q)];exact q
 ·rw[aw (λz=>by rw[z,(h5 rfl).1]at q;cases q),aw (nl (s.up.hh a o q))];exact s.up.hh a o q
 ·rw[aw (λz=>by rw[z,h3]at q;cases q),aw (nl (s.e.sub a o q))];exact s.e.sub a o q
 ·refine .inl ⟨hne,dx,_,aF,?_,h3,h4,h5,(if_neg (nl hp)).trans h6,(if_neg (nl h2)).trans h7,?_⟩;·rw[aw (λz=>by rw[z,hp]at h2;cases h2),aw (nl h2)];exact h2
  ·refine FdsAt.put (fd:=.own ds) hk ⟨l,us,rfl,?_,gl,λ_=>h0l,r,if_pos rfl⟩ (h8.keepL λl' ws q=>⟨?_,if_neg (nl q)⟩);·rw[aw (λz=>nl hp z.symm),aF]
   ·rw[aw (λz=>by rw[z,hp]at q;cases q),aw (nl q)];exact q
end
noncomputable def qP(C:Addr)(ρ:Ev)(i:Nat):R (List (Nat×Fd)):=match ρ[i]? with
 |some (some (.obj _ C' _ fs))=>if C'=C then .ok fs else .no
 |_=>.no
noncomputable def rW(C:Addr)(ρ:Ev)(i:Nat):R (Addr×List (Nat×Fd)):=match ρ[i]? with
 |some (some (.obj true C' p fs))=>if C'=C then .ok (p,fs)else .no
 |_=>.no
noncomputable def fldL(fs:List (Nat×Fd))(k:Nat):R (List D):=match fs.lookup k with
 |some (.own ds)=>.ok ds
 |_=>.no
noncomputable def vT(C:Addr)(i k:Nat)(gb:Ev->R D):Ev->R D:=λρ=>qP C ρ i>>=λfs=>fldL fs k>>=λds=>gb ρ>>=λd=>ofO (ixD (.lst false ds) d)
noncomputable def Ey(C:Addr)(i k:Nat):Ev->R D:=λρ=>qP C ρ i>>=λfs=>fldL fs k>>=λds=>.ok (.int ds.length)
noncomputable def Fh(C:Addr)(i k:Nat)(ga:Ev->R D):Ev->O:=λρ=>(rW C ρ i).out ρ λo=>(fldL o.2 k).out ρ λds=>(ga ρ).out ρ λd=>if ds.length<sizeLine then .nx (ρ.set i (some (.obj true C o.1 (jG k (.own (ds++[d])) o.2))))else .no
noncomputable def Bb(C:Addr)(i k:Nat)(gl:Ev->R (List D)):Ev->O:=λρ=>(rW C ρ i).out ρ λo=>(gl ρ).out ρ λds=>if o.2.length<900 then .nx (ρ.set i (some (.obj true C o.1 (jG k (.own ds) o.2))))else .no
noncomputable def B6(ga:Ev->R D):Ev->O:=λρ=>(ga ρ).out ρ λd=>.re d ρ
structure CF(K:PySem.W.Frag)(C:Addr)(ks:List Nat):Prop where
 cl:Cls K C
 ne:C≠DC
 na:∀k∈ks,k<fnames.length/\NoAttr K C (dg k)
def Ab{α:Type}{k:List (Nat×Fd)->R α}{P:α->Prop}{E:Addr->Prop}(h:(qP C ρ i>>=k).post P E):∃m p fs,ρ[i]?=some (some (.obj m C p fs))/\(k fs).post P E:=by
 unfold qP at h;split at h
 ·rename_i m C' p fs e;by_cases z:C'=C;·subst z;rw[if_pos rfl]at h;exact⟨m,p,fs,e,h⟩
  ·rw[if_neg z]at h;exact h.elim
 ·exact h.elim
def EN{fs:List (Nat×Fd)}{n:Nat}{α:Type}{k:List D->R α}{P:α->Prop}{E:Addr->Prop}(h:(fldL fs n>>=k).post P E):∃ds,fs.lookup n=some (.own ds)/\(k ds).post P E:=by
 unfold fldL at h;split at h;·rename_i ds e;exact⟨ds,e,h⟩
 ·exact h.elim
def qr{H₀:Hp}{D:Ends}{k:Addr×List (Nat×Fd)->O}(h:jM X G₀ H₀ D ((rW C ρ i).out ρ k)):∃p fs,ρ[i]?=some (some (.obj true C p fs))/\jM X G₀ H₀ D (k (p,fs)):=by
 unfold rW at h;split at h
 ·rename_i C' p fs e;by_cases z:C'=C;·subst z;rw[if_pos rfl]at h;exact⟨p,fs,e,h⟩
  ·rw[if_neg z]at h;exact h.elim
 ·exact h.elim
def CK{H₀:Hp}{D:Ends}{fs:List (Nat×Fd)}{n:Nat}{k:List L2.D->O}(h:jM X G₀ H₀ D ((fldL fs n).out ρ k)):∃ds,fs.lookup n=some (.own ds)/\jM X G₀ H₀ D (k ds):=by
 unfold fldL at h;split at h;·rename_i ds e;exact⟨ds,e,h⟩
 ·exact h.elim
section
variable{e b:Expr}{ga:Ev->R D}{f:Str}{p1 p2 p3 ap cp:Pos}
def StE.fldL{K:PySem.W.Frag}{m:Bool}{fs:List (Nat×Fd)}(st:StE K G H σ ρ)(e:ρ[i]?=some (some (.obj m C p fs)))(ek:fs.lookup k=some (.own ds)):
  ∃dx vs l ws,σ[i]?=some (some (.ref p))/\H p=some (.ins C dx vs)/\vs.lookup (dg k)=some (.ref l)/\H l=some (.lst ws)/\Reps K G ws ds:=by
 obtain⟨es,ow,ob⟩:=st.obs i m C p fs e;obtain⟨dx,vs,h1,h2,h3,h4,h5,h6,h7,h8⟩:=ob.insL ek;obtain⟨v,e1,l,ws,rfl,g1,g2,g3,g4,g5⟩:=h8.get ek;exact⟨dx,vs,l,ws,es,h1,e1,g1,g4⟩
def yg(i k:Nat)(c:CF X.K C ks)(hk:k∈ks)(hb:PF X b gb)(hi:X.N[i]?=some x:=by rfl)(hv:Vis X.env.scope x:=by first|exact Or.inl rfl|exact Or.inr (Or.inl rfl)|exact Or.inr (Or.inr rfl))(hf:f=dg k:=by rfl)(hd:(x==("__debug__":Str))=false:=by decide)(hcd:(x==("__classdict__":Str))=false:=by decide)(hba:attributeBase (.Name x p1) f X.env (eval (.Name x p1) X.env)=eval (.Name x p1) X.env:=by rfl)(hs:qF b:=by exact λ_ _=>rfl):
  PF X (.Subscript (.Attribute (.Name x p1) f p2) b pos) (vT C i k gb):=λpins s σ H Q I h=>by
 subst hf;refine FX ix_list (D1 (dA hi hv hd hcd) hba) hb hs pins s σ H Q I ?_;obtain⟨G,ρ,st,h⟩:=h;obtain⟨m,p,fs,e1,h⟩:=Ab h;obtain⟨ds,e2,h⟩:=EN h;obtain⟨dx,vs,l,ws,h1,h2,h3,h4,h5⟩:=st.fldL e1 e2;refine⟨.ref p,h1,p,C,dx,vs,.ref l,rfl,h2,c.cl,(c.na k hk).2,h3,?_⟩;refine tG.intro st h λd v G1 H1 u1 st1 r1 h'=>?_;obtain⟨d',e3,q⟩:=ofO.ok h';cases d with
 |int j=>obtain⟨v',e4,r4⟩:=(h5.mono u1.gg).atI e3;exact⟨l,ws,j,v',rfl,r1.int_inv,.of (u1.hh _ _ h4),e4,q v' G1 H1 (.refl st1.sub) r4⟩
 |_=>cases e3
def Iw(i k:Nat)(c:CF X.K C ks)(hk:k∈ks)(he:PF X e ga)(hi:X.N[i]?=some x:=by rfl)(hv:Vis X.env.scope x:=by first|exact Or.inl rfl|exact Or.inr (Or.inl rfl)|exact Or.inr (Or.inr rfl))(hf:f=dg k:=by rfl)(hd:(x==("__debug__":Str))=false:=by decide)(hcd:(x==("__classdict__":Str))=false:=by decide)(hba:attributeBase (.Name x p1) f X.env (eval (.Name x p1) X.env)=eval (.Name x p1) X.env:=by rfl)(hs1:starEach [e] X.env=(false,eval e X.env)::starEach [] X.env:=by rfl)(hbase:attributeBase (.Attribute (.Name x p1) f p2) "append" X.env (eval (.Attribute (.Name x p1) f p2) X.env)=eval (.Attribute (.Name x p1) f p2) X.env:=by rfl)(hfew:((backTo cp (starEach [e] X.env)).all (λx=>!x.1) && (backToKw cp (keywordEach [] X.env)).all (λx=>x.1.isSome)
 && decide ([e].length+([]:List Keyword).length+(if ([]:List Keyword).isEmpty then 0 else 1)<30))=true:=by rfl)(hline:(ap.endLine==cp.line)=true:=by rfl)(hs:swapsWith (.Call (.Attribute (.Attribute (.Name x p1) f p2) "append" ap) [e] [] cp) none pos.line X.env=pure false:=by rfl):
  PSF X (.Expr (.Call (.Attribute (.Attribute (.Name x p1) f p2) "append" ap) [e] [] cp) pos) (Fh C i k ga):=λG₀ H₀ pins s σ H D I h=>by
 subst hf;refine jx (Ba PySem.F.plainAttrs_list PySem.F.slot_list_append PySem.F.type_list_append mw (D1 (dA hi hv hd hcd) hba) (cW he jj hs1) hbase hfew hline hs1 rfl) hs pins s σ H D I ?_;obtain⟨G,ρ,sr,h⟩:=h;obtain⟨p,fs,e1,h⟩:=qr h;obtain⟨ds,e2,h⟩:=CK h;obtain⟨dx,vs,l,ws,h1,h2,h3,h4,h5⟩:=sr.e.fldL e1 e2;refine⟨.ref p,h1,p,C,dx,vs,.ref l,rfl,h2,c.cl,(c.na k hk).2,h3,.inl ⟨rfl,ws,.of h4⟩,G,ρ,sr.e,?_⟩;cases q:ga ρ with
 |ok d=>
  rw[q]at h;simp only[R.out]at h;intro v G' H' u r;by_cases hz:ds.length<sizeLine;·rw[if_pos hz]at h;refine⟨l,ws,v,rfl,rfl,u.hh _ _ h4,by rw[h5.length];exact hz,h _ G' _ ?_⟩;exact(sr.ups u).fmut e1 e2 ((h5.mono u.gg).append (.cons r .nil)) (u.hh _ _ h2) h3
  ·rw[if_neg hz]at h;exact h.elim
 |ex C=>rw[q]at h;exact Exx.of sr h
 |no=>rw[q]at h;exact h
def zd(i k:Nat)(c:CF X.K C ks)(hk:k∈ks)(he:PFL X e gl)(hi:X.N[i]?=some x:=by rfl)(hv:Vis X.env.scope x:=by first|exact Or.inl rfl|exact Or.inr (Or.inl rfl)|exact Or.inr (Or.inr rfl))(hf:f=dg k:=by rfl)(hd:(x==("__debug__":Str))=false:=by decide)(hcd:(x==("__classdict__":Str))=false:=by decide)(hs:swapsWith e (some (.Attribute (.Name x p1) f p2)) pos.line X.env=pure false:=by rfl):
  PSF X (.Assign [.Attribute (.Name x p1) f p2] e pos) (Bb C i k gl):=λG₀ H₀ pins s σ H D I h=>by
 subst hf;refine JY (dA hi hv hd hcd) he hs pins s σ H D I ?_;obtain⟨G,ρ,sr,h⟩:=h;obtain⟨p,fs,e1,h⟩:=qr h;refine⟨G,ρ,sr.e,?_⟩;cases q:gl ρ with
 |ok ds=>
  rw[q]at h;simp only[R.out]at h;intro l us G' H' u hl r;obtain⟨h1,ow,ob0⟩:=sr.e.obs i true C p fs e1;obtain⟨dx,vs,g1,g2,g3,g4,g5,g6,g7,g8⟩:=ob0.ins c.ne;by_cases hz:fs.length<900;·rw[if_pos hz]at h;have hp:=u.hh _ _ g1;refine⟨.ref p,h1,p,C,dx,vs,rfl,?_,c.cl,(c.na k hk).2,by rw[g8.len];omega,h _ G' _ ((sr.ups u).fputL e1 (c.na k hk).1 hl r hp)⟩;rw[aw (λz=>by rw[z,hl]at hp;cases hp)];exact hp
  ·rw[if_neg hz]at h;exact h.elim
 |ex C=>rw[q]at h;exact Exx.of sr h
 |no=>rw[q]at h;exact h
def Ei(he:PF X e ga):PSF X (.Return (some e) pos) (B6 ga):=λG₀ H₀ pins s σ H D I h=>by
 refine Ax he pins s σ H D I ?_;obtain⟨G,ρ,sr,h⟩:=h;have h:jM X G₀ H₀ D ((ga ρ).out ρ λd=>.re d ρ):=h;refine⟨G,ρ,sr.e,?_⟩;cases q:ga ρ with
 |ok d=>rw[q]at h;exact λv G' H' u r=>h v σ G' H' (sr.ups u) r
 |ex C=>rw[q]at h;exact Exx.of sr h
 |no=>rw[q]at h;exact h
end
structure MCallee(P:Program)(w:World)(K:PySem.W.Frag)(mg:Str->Option Value)(base:Heap)(C:Addr)(mn:Str)(k n:Nat)(F:MF):Prop where
 ex:∃f fd ps,FnM P w K mg base k f fd ps C F/\Meth K C mn f/\Binds K fd ps []/\ps.length=n+1
def MCallee.mono{w:World}{K:PySem.W.Frag}{mg:Str->Option Value}{base:Heap}{mn:Str}{n:Nat}(c:MCallee P w K mg base C mn k n F)(k':Nat)(h:k<=k':=by decide):MCallee P w K mg base C mn k' n F:=by obtain⟨f,fd,ps,M,hm,hb,e⟩:=c.ex;exact⟨f,fd,ps,{ M with run:=λA outer s H args us vs Q E hr=>M.run A outer s H args us vs Q E (hr.mono h) },hm,hb,e⟩
theorem FdsAt.none{K:PySem.W.Frag}{H₀:Hp}{m:Bool}{mn:Str}(hn:∀k,k<fnames.length->(mn==dg k)=false):∀{fs:List (Nat×Fd)}{vs:List (Str×V)},FdsAt K H₀ G H ow i m fs vs->vs.lookup mn=Option.none
 |_,_,.nil=>rfl
 |_,_,.cons (k:=a) h nk r t=>by simp only[List.lookup_cons,hn a h];exact FdsAt.none hn t
section
variable{n:Nat}{fs:List (Nat×Fd)}{Q:VK}
def qA(M:FnM X.prog X.w X.K X.mg X.base k f fd ps C F)(hr:Room k X.A)(hb:Binds X.K fd ps [])(hl:ps.length=n+1)(I:Inv X pins σ H s)(r:Vals vs us)(rp:Reps X.K G vs ds)(hn:ds.length=n)(sub:Same G H)(og:∀a t,ow a=some t->G a=none)(ob:ObjAt X.K (λ_=>none) G H ow 0 true C p fs)(h:match F fs ds with
 |.ok d fs'=>∀v G' H' ow',Up G (hid H ow) G' H'->ObjAt X.K (hid H ow) G' H' ow' 0 true C p fs'->Rep X.K G' v d->Q v H'
 |.rd d=>∀v G' H',Up G H G' H'->Rep X.K G' v d->Q v H'
 |.ex C'=>Exx X σ G H C'
 |.no=>False):wpAny (model X.prog X.w) X.A (call (.ref f) (.ref p::us)) (EP X pins σ Q) X.xe s:=by
 have hvl:(V.ref p::vs).length=ps.length:=by rw[hl,List.length_cons,rp.length,hn]
 have hul:(Value.ref p::us++[]).length=ps.length:=by rw[List.append_nil,List.length_cons,<- r.length,<- List.length_cons];exact hvl
 have hbb:=hb s (.ref p::us) I.kIn hul;rw[List.append_nil]at hbb;refine wpAny_call (codeAny_mono (M.run X.A X.stack s H ⟨.ref p::us,[]⟩ (.ref p::us) (.ref p::vs) Q (λc _ H'=>∃C G',c=.ref C/\Up G H G' H'/\Exx X σ G H C) hr I.env0 hbb (.cons rfl r) ⟨hvl,G,p,vs,ds,fs,ow,rfl,rp,sub,og,ob,?_⟩) λr' s' hq=>?_)
 ·cases q:F fs ds with
  |ok d fs'=>rw[q]at h;exact h
  |rd d=>rw[q]at h;exact h
  |ex C'=>rw[q]at h;exact λG' H' u=>⟨C',G',rfl,u,h⟩
  |no=>rw[q]at h;exact h.elim
 ·cases r' with
  |error e'=>obtain⟨a,C,H',rfl,fl,C',G',ec,u,q⟩:=hq;cases ec;exact q _ _ ⟨G,H,.refl sub,pins,s,a,rfl,I,.inr (.inl ⟨G',H',fl,u⟩)⟩
  |ok fl=>
   cases fl with
   |ret u=>exact I.after hq
   |_=>exact False.elim hq
end
noncomputable def RM.read:RM->R D
 |.rd d=>.ok d
 |.ex C=>.ex C
 |_=>.no
noncomputable def J6(C:Addr)(i n:Nat)(F:MF)(gl:Ev->R (List D)):Ev->R D:=λρ=>qP C ρ i>>=λfs=>gl ρ>>=λds=>if ds.length=n then (F fs ds).read else .no
noncomputable def bX(C:Addr)(i:Nat)(F:MF):Ev->R D:=λρ=>qP C ρ i>>=λfs=>(F fs []).read
noncomputable def RM.out(r:RM)(C p:Addr)(i:Nat)(ρ:Ev):O:=match r with
 |.ok _ fs'=>.nx (ρ.set i (some (.obj true C p fs')))
 |.rd _=>.nx ρ
 |.ex E=>.ex E ρ
 |.no=>.no
noncomputable def mJ(C:Addr)(i n:Nat)(F:MF)(gl:Ev->R (List D)):Ev->O:=λρ=>(rW C ρ i).out ρ λo=>(gl ρ).out ρ λds=>if ds.length=n then (F o.2 ds).out C o.1 i ρ else .no
noncomputable def Ht(C:Addr)(i:Nat)(F:MF):Ev->O:=λρ=>(rW C ρ i).out ρ λo=>(F o.2 []).out C o.1 i ρ
section
variable{e:Expr}{mn:Str}{n:Nat}{p1 ap ep:Pos}
def bW{pl:Sem Bool}(i:Nat)(c:CF X.K C ks)(m:MCallee X.prog X.w X.K X.mg X.base C mn k 0 F)(hr:Room k X.A)(hi:X.N[i]?=some x:=by rfl)(hv:Vis X.env.scope x:=by first|exact Or.inl rfl|exact Or.inr (Or.inl rfl)|exact Or.inr (Or.inr rfl))(hd:(x==("__debug__":Str))=false:=by decide)(hcd:(x==("__classdict__":Str))=false:=by decide)(hmn:∀k,k<fnames.length->(mn==dg k)=false:=by decide)(ht:eval (.Call (.Attribute (.Name x p1) mn ap) [] [] pos) X.env=(do
 let ov <- eval (.Name x p1) X.env
 standAt ap.atName
 let (f,first) <- holding [ov] (getMethod ov mn pl)
 callWith pos f first (backTo pos (starEach [] X.env)) (backToKw pos (keywordEach [] X.env))):=by rfl):
  PF X (.Call (.Attribute (.Name x p1) mn ap) [] [] pos) (bX C i F):=λpins s σ H Q I h=>by
 obtain⟨f,fd,ps,M,hm,hb,hl⟩:=m.ex;obtain⟨G,ρ,st,h⟩:=h;obtain⟨mm,p,fs,e1,h⟩:=Ab h;obtain⟨h1,ow1,ob1⟩:=st.obs i mm C p fs e1;have v:PE X (.Name x p1) (Gz i):=dA hi hv hd hcd;refine PySem.W.methodCall_KW (thn (v pins s σ H (λu H'=>u=.ref p/\H'=H) I ⟨_,h1,rfl,rfl⟩) λu s1 ⟨v',H',I',rv,ev,eh⟩=>?_) ht;subst ev eh;obtain rfl:u=Value.ref p:=rv;obtain⟨dx,vs,g1,g2,g3,g4,g5,g6,g7,g8⟩:=ob1.ins c.ne;refine kn I' g1 c.cl hm (g8.none hmn) ?_;refine PySem.W.callWith_K0 I'.kIn hm.kp (qA M hr hb hl I' .nil .nil rfl st.sub (λa t q=>(jl q).2.2.1) ob1.cut ?_);cases q:F fs []with
 |ok d fs'=>rw[q]at h;exact h.elim
 |rd d=>rw[q]at h;exact h
 |ex C'=>rw[q]at h;exact h
 |no=>rw[q]at h;exact h.elim
def jo{pl:Sem Bool}(i:Nat)(c:CF X.K C ks)(m:MCallee X.prog X.w X.K X.mg X.base C mn k n F)(hr:Room k X.A)(ha:PFA X (e::es) gl)(hi:X.N[i]?=some x:=by rfl)(hv:Vis X.env.scope x:=by first|exact Or.inl rfl|exact Or.inr (Or.inl rfl)|exact Or.inr (Or.inr rfl))(hd:(x==("__debug__":Str))=false:=by decide)(hcd:(x==("__classdict__":Str))=false:=by decide)(hmn:∀k,k<fnames.length->(mn==dg k)=false:=by decide)(hst:starEach (e::es) X.env=(false,eval e X.env)::starEach es X.env:=by rfl)(hpl:(backTo pos (starEach es X.env)).any (·.1)=false:=by rfl)(hs:swapsWith (.Call (.Attribute (.Name x p1) mn ap) (e::es) [] pos) none ep.line X.env=pure false:=by rfl)(ht:eval (.Call (.Attribute (.Name x p1) mn ap) (e::es) [] pos) X.env=(do
 let ov <- eval (.Name x p1) X.env
 standAt ap.atName
 let (f,first) <- holding [ov] (getMethod ov mn pl)
 callWith pos f first (backTo pos (starEach (e::es) X.env)) (backToKw pos (keywordEach [] X.env))):=by rfl):
  PSF X (.Expr (.Call (.Attribute (.Name x p1) mn ap) (e::es) [] pos) ep) (mJ C i n F gl):=λG₀ H₀ pins s σ H D I h=>by
 obtain⟨f,fd,ps,M,hm,hb,hl⟩:=m.ex;obtain⟨G,ρ,sr,h⟩:=h;obtain⟨p,fs,e1,h⟩:=qr h;obtain⟨h1,_,_⟩:=sr.e.obs i true C p fs e1;have v:PE X (.Name x p1) (Gz i):=dA hi hv hd hcd;have pe:PE X (.Call (.Attribute (.Name x p1) mn ap) (e::es) [] pos) (λσ' H' Q=>σ'=σ/\H'=H/\∀v H2,D.nx σ H2->Q v H2):=by
  rintro pn2 sh2 σ' H' Q J ⟨rfl,rfl,hQ⟩;refine PySem.W.methodCall_KW (thn (v pn2 sh2 σ' H' (λu H2=>u=.ref p/\H2=H') J ⟨_,h1,rfl,rfl⟩) λu s1 ⟨v',H2,I',rv,ev,eh⟩=>?_) ht;subst ev eh;obtain rfl:u=Value.ref p:=rv;obtain⟨_,ow,ob0⟩:=sr.e.obs i true C p fs e1;obtain⟨dx,vs,g1,g2,g3,g4,g5,g6,g7,g8⟩:=ob0.ins c.ne;refine kn I' g1 c.cl hm (g8.none hmn) ?_;have t:tAF X gl σ' H2 (λvs H1=>∃G1 ds,Up G H2 G1 H1/\Reps X.K G1 vs ds/\ds.length=n/\jM X G₀ H₀ D ((F fs ds).out C p i ρ)):=by
   refine⟨G,ρ,sr.e,?_⟩;cases q:gl ρ with
   |ok ds=>
    rw[q]at h;simp only[R.out]at h;intro vs G1 H1 u r;by_cases hz:ds.length=n;·rw[if_pos hz]at h;exact⟨G1,ds,u,r,hz,h⟩
    ·rw[if_neg hz]at h;exact h.elim
   |ex C=>rw[q]at h;exact Exx.of sr h
   |no=>rw[q]at h;exact h
  refine PySem.W.callWith_K J.ok.mod.kin hm.kp (thn (ha pos pn2 s1 σ' H2 _ I' t) λus s2 q=>⟨?_,?_⟩) hst hpl;·obtain⟨vs,H1,I1,r,_⟩:=q;exact I1.kIn
  obtain⟨vs,H1,I1,r,G1,ds,u1,rp,hz,h2⟩:=q;have sr1:=sr.ups u1;obtain⟨ow1,o1,o2⟩:=sr1.ob;refine qA M hr hb hl I1 r rp hz sr1.e.sub (λa t q=>(jl q).2.2.1) (o2 i true C p fs e1).2.cut ?_;cases q:F fs ds with
  |ok d fs'=>rw[q]at h2;exact λv G' H' ow' u ob _=>hQ v H' (h2 _ G' H' (sr1.meth e1 o1 o2 u ob))
  |rd d=>rw[q]at h2;exact λv G' H' u _=>hQ v H' (h2 _ G' H' (sr1.ups u))
  |ex C'=>rw[q]at h2;exact Exx.of sr1 h2
  |no=>rw[q]at h2;exact h2.elim
 exact jx pe hs pins s σ H D I ⟨rfl,rfl,λv H2 q=>q⟩
end
structure MkC(P:Program)(w:World)(K:PySem.W.Frag)(mg:Str->Option Value)(base:Heap)(C:Addr)(cn:Str)(k n:Nat)(F:MF):Prop where
 ex:∃f fd ps,FnM P w K mg base k f fd ps C F/\Mk K C f/\mg cn=some (.ref C)/\Binds K fd ps []/\ps.length=n+1
 ne:C≠DC
section
variable{n:Nat}{Q:VK}
def Dh(hC:C≠DC)(M:Mk X.K C f)(Fi:FnM X.prog X.w X.K X.mg X.base k f fd ps C F)(hr:Room (k+1) X.A)(hb:Binds X.K fd ps [])(hl:ps.length=n+1)(I:Inv X pins σ H s)(r:Vals vs us)(rp:Reps X.K G vs ds)(hn:ds.length=n)(sub:Same G H)(h:match F [] ds with
 |.ok d fs'=>d=.non/\∀x G' H' ow',Up G H G' H'->ObjAt X.K H G' H' ow' 0 true C x fs'->Q (.ref x) H'
 |.ex C'=>Exx X σ G H C'
 |_=>False):wpAny (model X.prog X.w) X.A (call (.ref C) us) (EP X pins σ Q) X.xe s:=by
 have I2:=Inv.made (C:=C) I;generalize hx:s.heap.objs.size+1=x at I2;generalize hd:s.heap.objs.size=dx at I2;have fx:H x=none:=I.hok.fresh (by rw[<- hx];exact Nat.le_succ _);have fd':H dx=none:=I.hok.fresh (by rw[<- hd];exact Nat.le_refl _);have ne:dx≠x:=by rw[<- hx,<- hd];exact Nat.ne_of_lt (Nat.lt_succ_self _)
 have gx:=sub.free fx;have gd:=sub.free fd';have hh:Same H (upd (upd H dx (.own x)) x (.ins C dx [])):=λa o e=>by rw[aw (aD e fx),aw (aD e fd')];exact e
 have sub2:=sub.trans hh;have up2:Up G H G (upd (upd H dx (.own x)) x (.ins C dx [])):=⟨sub2,.refl _,hh,λ_ _ e=>.inl e⟩
 let ow:kj:=λa=>if a=x\/a=dx then some (0,0)else none;have og:∀a t,ow a=some t->G a=none:=λa t q=>by
  by_cases z:a=x\/a=dx
  ·rcases z with z|z;·rw[z];exact gx
   ·rw[z];exact gd
  ·have:ow a=none:=if_neg z;rw[this]at q;cases q
 have ob:ObjAt X.K (λ_=>none) G (upd (upd H dx (.own x)) x (.ins C dx [])) ow 0 true C x []:=
  .inl ⟨hC,dx,[],aF,by rw[aw ne,aF],gx,gd,λ_=>⟨rfl,rfl⟩,if_pos (.inl rfl),if_pos (.inr rfl),.nil⟩;have eh:hid (upd (upd H dx (.own x)) x (.ins C dx [])) ow=H:=by
  funext a
  by_cases z:a=x\/a=dx
  ·rw[jE (if_pos z)];rcases z with z|z;·rw[z];exact fx.symm
   ·rw[z];exact fd'.symm
  ·rw[ia (if_neg z),aw (λq=>z (.inl q)),aw (λq=>z (.inr q))]
 have hvl:(V.ref x::vs).length=ps.length:=by rw[hl,List.length_cons,rp.length,hn]
 have hul:(Value.ref x::us++[]).length=ps.length:=by rw[List.append_nil,List.length_cons,<- r.length,<- List.length_cons];exact hvl
 refine wpAny_call (BW I.kIn M.makes M.init (beq_iff_eq.mp M.fn) ?_);rw[hx,hd];have hbb:=hb _ (.ref x::us) I2.kIn hul;rw[List.append_nil]at hbb;refine codeAny_mono (Fi.run _ X.stack _ _ ⟨Value.ref x::us,[]⟩ (Value.ref x::us) (V.ref x::vs) (λv H2=>v=.non/\Q (.ref x) H2) (λc _ H'=>∃C' G',c=.ref C'/\Up G (upd (upd H dx (.own x)) x (.ins C dx [])) G' H'/\Exx X σ G H C') (hr.make C us [])
  (I2.env0.make C us []) hbb (.cons rfl r) ⟨hvl,G,x,vs,ds,[],ow,rfl,rp,sub2,og,ob,?_⟩) λr' s' hq=>?_
 ·cases q:F [] ds with
  |ok d fs'=>rw[q]at h;intro v G' H' ow' u o rv;rw[eh]at u o;obtain⟨rfl,h⟩:=h;exact⟨rv.non_inv,h x G' H' ow' u o⟩
  |rd d=>rw[q]at h;exact h.elim
  |ex C'=>rw[q]at h;exact λG' H' u=>⟨C',G',rfl,u,h⟩
  |no=>rw[q]at h;exact h.elim
 ·cases r' with
  |error e'=>obtain⟨a,C',H',rfl,fl,C'',G',ec,u,q⟩:=hq;cases ec;exact q _ _ ⟨G,_,up2,pins,_,a,rfl,I2,.inr (.inl ⟨G',H',fl,u⟩)⟩
  |ok fl=>
   cases fl with
   |ret u=>obtain⟨v,H',I3,rv,ev,q3⟩:=I2.after hq;subst ev;exact⟨rv,⟨V.ref x,H',I3,rfl,q3⟩⟩
   |_=>exact False.elim hq
end
noncomputable def nT(F:MF)(n:Nat)(ds:List D):R (List (Nat×Fd)):=if ds.length=n then (match F [] ds with
 |.ok .non fs'=>.ok fs'
 |.ex C=>.ex C
 |_=>.no)else .no
noncomputable def OI(X:Cx)(C:Addr)(F:MF)(n:Nat)(gl:Ev->R (List D)):TE:=λσ H Q=>∃G ρ,StE X.K G H σ ρ/\(gl ρ>>=nT F n).post (λfs'=>∀x G' H' ow',Up G H G' H'->ObjAt X.K H G' H' ow' 0 true C x fs'->Q (.ref x) H') (Exx X σ G H)
section
variable{e:Expr}{cn:Str}{n:Nat}{p:Pos}
def wC(c:MkC X.prog X.w X.K X.mg X.base C cn k n F)(hr:Room (k+1) X.A)(ha:PFA X (e::es) gl)(hg:Gl X cn:=by rfl)(hdb:(cn==("__debug__":Str))=false:=by decide)(he:starEach (e::es) X.env=(false,eval e X.env)::starEach es X.env:=by rfl)(hpl:(backTo pos (starEach es X.env)).any (·.1)=false:=by rfl):PE X (.Call (.Name cn p) (e::es) [] pos) (OI X C F n gl):=by
 intro pins s σ H Q I h;obtain⟨f,fd,ps,M,mk,hm,hb,hl⟩:=c.ex;obtain⟨G,ρ,st,h⟩:=h;refine wpAny_Call_Name_kw (mi I hg hm ?_ hdb);have t:tAF X gl σ H (λvs H1=>∃G1 ds,Up G H G1 H1/\Reps X.K G1 vs ds/\(nT F n ds).post (λfs'=>∀x G' H' ow',Up G H G' H'->ObjAt X.K H G' H' ow' 0 true C x fs'->Q (.ref x) H') (Exx X σ G H)):=by
  refine⟨G,ρ,st,?_⟩;cases q:gl ρ with
  |ok ds=>rw[q]at h;exact λvs G1 H1 u r=>⟨G1,ds,u,r,h⟩
  |ex C=>rw[q]at h;exact h
  |no=>rw[q]at h;exact h
 refine PySem.W.callWith_K I.ok.mod.kin mk.kp (thn (ha pos pins s σ H _ I t) λus s1 q=>⟨?_,?_⟩) he hpl;·obtain⟨vs,H1,I1,r,_⟩:=q;exact I1.kIn
 obtain⟨vs,H1,I1,r,G1,ds,u1,rp,h1⟩:=q;unfold nT at h1;by_cases hz:ds.length=n
 ·rw[if_pos hz]at h1;refine Dh c.ne mk M hr hb hl I1 r rp hz u1.sub ?_;cases q:F [] ds with
  |ok d fs'=>
   rw[q]at h1;cases d with
   |non=>refine⟨rfl,λx G' H' ow' u o=>h1 x G' H' ow' (u1.trans u) (o.keep ⟨λ_ _ _ _ e=>e,.refl _,λ_ _ _ _ _ n=>n,λ_ _ _ e _=>e,λa o _ _ z=>u1.hh.free z⟩)⟩
   |_=>exact h1.elim
  |rd d=>rw[q]at h1;exact h1.elim
  |ex C'=>rw[q]at h1;exact Exx.up u1 h1
  |no=>rw[q]at h1;exact h1.elim
 ·rw[if_neg hz]at h1;exact h1.elim
end
def StR.setObj{K:PySem.W.Frag}{H₀ G':Hp}{x:Addr}{fs:List (Nat×Fd)}{ow':kj}(s:StR K G₀ H₀ G H σ ρ)(u:Up G H G' H')(ob:ObjAt K H G' H' ow' 0 true C x fs)(i:Nat):StR K G₀ H₀ G' H' (σ.set i (some (.ref x))) (ρ.set i (some (.obj true C x fs))):=by
 have get:∀(j:Nat) y,(ρ.set i (some (.obj true C x fs)))[j]?=some (some y)->(j=i/\y=.obj true C x fs/\i<σ.length)\/(j≠i/\ρ[j]?=some (some y)/\(σ.set i (some (.ref x)))[j]?=σ[j]?):=λj y h=>by
  by_cases e:i=j
  ·subst e;have hl:i<ρ.length:=by have:=(List.getElem?_eq_some_iff.mp h).1;simpa using this
   rw[List.getElem?_set_self hl]at h;exact .inl ⟨rfl,by injection (Option.some.inj h)with q;exact q.symm,by rw[s.e.len];exact hl⟩
  ·rw[List.getElem?_set_ne e]at h;exact .inr ⟨λz=>e z.symm,h,List.getElem?_set_ne e⟩
 have s1:=s.ups u;have ob':ObSt K H₀ G' H' (σ.set i (some (.ref x))) (ρ.set i (some (.obj true C x fs))):=by
  obtain⟨ow,o1,o2⟩:=s.ob;refine⟨λa=>open Classical in if H a=none then tN 0 i ow' a else ow a,λj ds l h1 h2=>?_,λj m' C' p' fs' h1=>?_⟩
  ·rcases get j _ h1 with⟨_,z,_⟩|⟨nj,f1,f2⟩;·cases z
   ·rw[f2]at h2;obtain⟨l2,vs,q1,q2,_⟩:=s.own j ds f1;rw[h2]at q1;cases q1;exact(if_neg (by rw[q2];simp)).trans (o1 j ds l f1 h2)
  ·rcases get j _ h1 with⟨rfl,z,hj⟩|⟨nj,f1,f2⟩;·cases z;exact⟨List.getElem?_set_self hj,ob.newtag (λa t q n=>(if_pos n).trans (pP q)) λa n=>s.up.hh.free n⟩
   ·rw[f2];have ku:ObKeep H₀ H₀ G H G' H' ow ow j:=.up u;exact⟨(o2 j m' C' p' fs' f1).1,(o2 j m' C' p' fs' f1).2.keep ⟨ku.hh,ku.gg,ku.gn,λa t o q1 q2=>(if_neg (by rw[q2];simp)).trans q1,ku.h0⟩⟩
 refine⟨⟨s1.e.sub,by simp[s1.e.len],λj d h=>?_,ob'.rd⟩,s1.sub0,s1.up,λj ds h=>?_,λj k ds es l q1 q2 q3 q4=>?_,ob'⟩
 ·rcases get j _ h with⟨_,z,_⟩|⟨_,f1,f2⟩;·cases z
  ·rw[f2];exact s1.e.val j d f1
 ·rcases get j _ h with⟨_,z,_⟩|⟨nj,f1,f2⟩;·cases z
  ·rw[f2];exact s1.own j ds f1
 ·rcases get j _ q1 with⟨_,z,_⟩|⟨nj,f1,f2⟩;·cases z
  ·rcases get k _ q2 with⟨_,z,_⟩|⟨nk,f3,f4⟩;·cases z
   ·exact s1.inj j k ds es l f1 f3 (f2▸q3) (f4▸q4)
noncomputable def yc{α:Type}(X:Cx)(sts:List Stmt)(g:α->Ev->O):Prop:=∀G₀ H₀,PSs X sts (λD σ H=>∃G ρ,StR X.K G₀ H₀ G H σ ρ/\∀q,jM X G₀ H₀ D (g q ρ))
section
variable{cT:List Stmt}{g1:Ev->O}{gs:Ev->O}{α:Type}{g2:α->Ev->O}{e:Expr}{gl':Ev->R (List D)}{cn:Str}{n:Nat}{p:Pos}
noncomputable def yE(g:Ev->O):Unit->Ev->O:=λ_=>g
noncomputable def nA(g1:Ev->O)(g2:α->Ev->O):α->Ev->O:=λq ρ=>(g1 ρ).seq (g2 q)
noncomputable def Et(C:Addr)(i:Nat)(F:MF)(n:Nat)(gl:Ev->R (List D))(g2:α->Ev->O):Addr×α->Ev->O:=λq ρ=>(gl ρ>>=nT F n).out ρ λfs=>g2 q.2 (ρ.set i (some (.obj true C q.1 fs)))
def vg(h:lV X cT gs):yc X cT (yE gs):=λG₀ H₀ pins s σ H D I ⟨G,ρ,sr,q⟩=>h G₀ H₀ pins s σ H D I ⟨G,ρ,sr,q ()⟩
def gF[Inhabited α](h1:PSF X st g1)(h2:yc X cT g2):yc X (st::cT) (nA g1 g2):=λG₀ H₀ pins s σ H D I h=>by
 refine iW (h1 G₀ H₀) (h2 G₀ H₀) pins s σ H D I ?_;obtain⟨G,ρ,sr,h⟩:=h;have h:∀q,jM X G₀ H₀ D ((g1 ρ).seq (g2 q)):=h;refine⟨G,ρ,sr,?_⟩;cases q:g1 ρ with
 |nx ρ'=>rw[q]at h;exact λσ' G' H' sr'=>⟨G',ρ',sr',h⟩
 |rt d=>rw[q]at h;exact h default
 |re d ρ'=>rw[q]at h;exact h default
 |bk ρ'=>rw[q]at h;exact h default
 |ct ρ'=>rw[q]at h;exact h default
 |ex C ρ'=>rw[q]at h;exact h default
 |no=>rw[q]at h;exact h default
def JX[Inhabited α](i:Nat)(c:MkC X.prog X.w X.K X.mg X.base C cn k n F)(hr:Room (k+1) X.A)(hN:X.N.Nodup)(ha:PFA X (e::es) gl)(h2:yc X cT g2)(hi:X.N[i]?=some y:=by rfl)(hx:Loc X.env.scope y:=by first|exact Or.inl rfl|exact Or.inr rfl)(hg:Gl X cn:=by rfl)(hdb:(cn==("__debug__":Str))=false:=by decide)(he:starEach (e::es) X.env=(false,eval e X.env)::starEach es X.env:=by rfl)(hpl:(backTo p (starEach es X.env)).any (·.1)=false:=by rfl)(hs:swapsWithSole [.Name y py] (.Call (.Name cn pos) (e::es) [] p) pos.line X.env=pure false:=by rfl)(hw:swappedStores [.Name y py] (.Call (.Name cn pos) (e::es) [] p) X.env=pure none:=by rfl)(hf:X.fn y=true\/X.env.scope.names.lookup y=some .local:=by first|exact .inl rfl|exact .inr rfl){pos':Pos}(hs':swapsWithSole [.Name y py] (.Call (.Name cn pos) (e::es) [] p) pos'.line X.env=pure false:=by rfl):
  yc X (.Assign [.Name y py] (.Call (.Name cn pos) (e::es) [] p) pos'::cT) (Et C i F n gl g2):=λG₀ H₀ pins s σ H D I h=>by
 refine iW (kU (wC c hr ha hg hdb he hpl) (jn hN hi hx hf) hs' hw rfl) (h2 G₀ H₀) pins s σ H D I ?_;obtain⟨G,ρ,sr,h⟩:=h;have h:∀q:Addr×α,jM X G₀ H₀ D ((gl ρ>>=nT F n).out ρ λfs=>g2 q.2 (ρ.set i (some (.obj true C q.1 fs)))):=h;refine⟨G,ρ,sr.e,?_⟩;cases q:gl ρ>>=nT F n with
 |ok fs=>rw[q]at h;exact λx G' H' ow' u ob=>⟨G',_,sr.setObj u ob i,λq2=>h (x,q2)⟩
 |ex C'=>rw[q]at h;exact Exx.of sr (h (0,default))
 |no=>rw[q]at h;exact(h (0,default)).elim
end
def Fun.okA{w:World}{K:PySem.W.Frag}{mg:Str->Option Value}{base:Heap}{N:List Str}{α:Type}(F:Fun K x qual st f fd)(S:FnScope N ps (ah st)){g:α->Ev->O}(hg:∀ds,ds.length=ps.length->gr ds=.no\/∀q,ak (g q (aj N.length ds))=gr ds)(hbody:∀(cdv:Value)(A:Around)(outer:List Env)(s:Shared)(H:Hp)(E:XK),Room k (A.deeper (envOfC qual (ah st) s.heap.objs.size f cdv))->yc (hU (CXo P w) P w K mg base N qual (ah st) f cdv A outer s H E) (aZ st) g):
  FnF P w K mg base (k+1) f fd ps gr:=by
 obtain⟨oc,od,kV,doc,pm,an,cdv,ct,osl,rfl,lk,hcd⟩:=F.ex;refine GN lk hcd S (λvs H Q E h=>h.1) λA outer s H vs Q E hr hsp=>?_;obtain⟨hl,G,ds,sub,r,h⟩:=hsp;refine⟨_,hbody cdv A outer s H E hr G H,G,aj N.length ds,we sub r,λq0=>?_⟩;rcases hg ds (by rw[<- r.length];exact hl)with z|z;·rw[z]at h;exact h.elim
 ·rw[<- z q0]at h;cases q:g q0 (aj N.length ds)with
  |nx ρ=>rw[q]at h;exact λσ G' H' sr=>h .non G' H' sr.up .non
  |rt d=>rw[q]at h;exact λv G' H' u rv=>h v G' H' u rv
  |re d ρ=>rw[q]at h;exact λv σ G' H' sr rv=>h v G' H' sr.up rv
  |bk ρ=>rw[q]at h;exact h.elim
  |ct ρ=>rw[q]at h;exact h.elim
  |ex C ρ=>rw[q]at h;exact λe s' fl=>qt fl h
  |no=>rw[q]at h;exact h.elim
noncomputable def CO(X:Cx)(G₀ H₀:Hp)(σ:St)(Q:VK)(o:O):Prop:=match o with
 |.re d ρ=>∀v G H,StR X.K G₀ H₀ G H σ ρ->Rep X.K G v d->Q v H
 |.ex C ρ=>∀e s',FlyS X G₀ H₀ ρ C e s'->X.xe e s'
 |_=>False
noncomputable def M5(X:Cx)(G₀ H₀:Hp)(σ:St)(Q:Bool->Hp->Prop)(o:O):Prop:=match o with
 |.re d ρ=>∃k,d=.bl k/\∀G H,StR X.K G₀ H₀ G H σ ρ->Q k H
 |.ex C ρ=>∀e s',FlyS X G₀ H₀ ρ C e s'->X.xe e s'
 |_=>False
noncomputable def tX(X:Cx)(G₀ H₀:Hp)(g:Ev->O):TE:=λσ H Q=>∃G ρ,StR X.K G₀ H₀ G H σ ρ/\CO X G₀ H₀ σ Q (g ρ)
noncomputable def tXB(X:Cx)(G₀ H₀:Hp)(g:Ev->O):TT:=λσ H Q=>∃G ρ,StR X.K G₀ H₀ G H σ ρ/\M5 X G₀ H₀ σ Q (g ρ)
noncomputable def PFX(X:Cx)(e:Expr)(g:Ev->O):Prop:=∀G₀ H₀,PE X e (tX X G₀ H₀ g)
noncomputable def PBX(X:Cx)(e:Expr)(g:Ev->O):Prop:=∀G₀ H₀,PT X e (tXB X G₀ H₀ g)
noncomputable def Kx(X:Cx)(e:Expr)(g:Ev->O):Prop:=∀G₀ H₀,PW X e (tXB X G₀ H₀ g)
noncomputable def O.thenX(o:O)(k:D->Ev->O):O:=match o with
 |.re d ρ=>k d ρ
 |.ex C ρ=>.ex C ρ
 |_=>.no
noncomputable def Ej(g:Ev->R Bool):Ev->O:=λρ=>(g ρ).out ρ λk=>.re (.bl k) ρ
noncomputable def xOr(g1 g2:Ev->O):Ev->O:=λρ=>(g1 ρ).thenX λd ρ'=>match d with
 |.bl true=>.re (.bl true) ρ'
 |.bl false=>g2 ρ'
 |_=>.no
noncomputable def Iz(g:Ev->O)(g1 g2:Ev->O):Ev->O:=λρ=>(g ρ).thenX λd ρ'=>match d with
 |.bl true=>g1 ρ'
 |.bl false=>g2 ρ'
 |_=>.no
section
variable{e a b c:Expr}{cT:List Expr}{g1 g2:Ev->O}{ga:Ev->R D}{gt:Ev->R Bool}{s1 s2:List Stmt}{h1 h2:Ev->O}
def Exx.fly{H₀:Hp}(sr:StR X.K G₀ H₀ G H σ ρ)(h:∀e s',FlyS X G₀ H₀ ρ C e s'->X.xe e s'):Exx X σ G H C:=λe s' ⟨G1,H1,u,f⟩=>h e s' (.of (sr.ups u) f)
def tX.read{α β:Type}{rep:Hp->β->α->Prop}{H₀:Hp}{m:Ev->R α}{Q:β->Hp->Prop}(sr:StR X.K G₀ H₀ G H σ ρ)(hk:∀a,m ρ=.ok a->∀v G1 H1,Up G H G1 H1->StR X.K G₀ H₀ G1 H1 σ ρ->rep G1 v a->Q v H1)(he:∀C,m ρ=.ex C->∀e s',FlyS X G₀ H₀ ρ C e s'->X.xe e s')(hn:m ρ≠.no):tG X rep m σ H Q:=by
 refine⟨G,ρ,sr.e,?_⟩;cases q:m ρ with
 |ok a=>exact λv G' H' u r=>hk a q v G' H' u (sr.ups u) r
 |ex C=>exact Exx.fly sr (he C q)
 |no=>exact absurd q hn
def Hs(h:PB X e gt):PBX X e (Ej gt):=λG₀ H₀ pins s σ H Q I ⟨G,ρ,sr,q⟩=>by
 refine h pins s σ H Q I (tX.read sr (λd e v G1 H1 u s1 r=>?_) (λC e=>?_) λe=>?_);·unfold Ej at q;rw[e]at q;obtain⟨k,ek,q⟩:=q;cases ek;subst r;exact q G1 H1 s1
 ·unfold Ej at q;rw[e]at q;exact q
 ·unfold Ej at q;rw[e]at q;exact q
def FE(ha:PBX X a g):Kx X (.BoolOp .Or [a] pos) g:=λG₀ H₀=>DE (ha G₀ H₀)
def D0(ha:PBX X a g1)(hb:Kx X (.BoolOp .Or (b::cT) pos) g2):Kx X (.BoolOp .Or (a::b::cT) pos) (xOr g1 g2):=λG₀ H₀ whole pins s σ H Q I ⟨G,ρ,sr,q⟩=>by
 refine Kg (ha G₀ H₀) (hb G₀ H₀) whole pins s σ H Q I ⟨G,ρ,sr,?_⟩;unfold xOr at q;cases e:g1 ρ with
 |re d ρ'=>
  rw[e]at q;cases d <;> first|exact q.elim|skip
  rename_i k;refine⟨k,rfl,λG1 H1 s1=>?_⟩;cases k with
  |true=>obtain⟨k,ek,q⟩:=q;cases ek;exact q G1 H1 s1
  |false=>exact⟨G1,ρ',s1,q⟩
 |ex C ρ'=>rw[e]at q;exact q
 |_=>rw[e]at q;exact q.elim
def HB{op:BoolOp}(h:Kx X (.BoolOp op es pos) g):PBX X (.BoolOp op es pos) g:=λG₀ H₀=>(h G₀ H₀).pt
def Ms(hc:PBX X c g)(ha:lV X s1 h1)(hb:lV X s2 h2):PSF X (.If c s1 s2 pos) (Iz g h1 h2):=λG₀ H₀ pins s σ H D I ⟨G,ρ,sr,q⟩=>by
 refine Ft (hc G₀ H₀) (ha G₀ H₀) (hb G₀ H₀) pins s σ H D I ⟨G,ρ,sr,?_⟩;unfold Iz at q;cases e:g ρ with
 |re d ρ'=>
  rw[e]at q;cases d <;> first|exact q.elim|skip
  rename_i k;refine⟨k,rfl,λG1 H1 s1=>?_⟩;cases k with
  |true=>exact⟨G1,ρ',s1,q⟩
  |false=>exact⟨G1,ρ',s1,q⟩
 |ex C ρ'=>rw[e]at q;exact q
 |_=>rw[e]at q;exact q.elim
end
noncomputable def KD(C:Addr)(ρ:Ev)(i:Nat):R (Bool×Addr×List (Nat×Fd)):=match ρ[i]? with
 |some (some (.obj m C' p fs))=>if C'=C then .ok (m,p,fs)else .no
 |_=>.no
noncomputable def RM.outX(r:RM)(m:Bool)(C p:Addr)(i:Nat)(ρ:Ev):O:=match r with
 |.ok d fs'=>if m=true then .re d (ρ.set i (some (.obj true C p fs')))else .no
 |.rd d=>.re d ρ
 |.ex E=>.ex E ρ
 |.no=>.no
noncomputable def iZ(C:Addr)(i n:Nat)(F:MF)(gl:Ev->R (List D)):Ev->O:=λρ=>(KD C ρ i).out ρ λo=>(gl ρ).out ρ λds=>if ds.length=n then (F o.2.2 ds).outX o.1 C o.2.1 i ρ else .no
def yZ{H₀:Hp}{Q:VK}{k:Bool×Addr×List (Nat×Fd)->O}(h:CO X G₀ H₀ σ Q ((KD C ρ i).out ρ k)):∃m p fs,ρ[i]?=some (some (.obj m C p fs))/\CO X G₀ H₀ σ Q (k (m,p,fs)):=by
 unfold KD at h;split at h
 ·rename_i m C' p fs e;by_cases z:C'=C;·subst z;rw[if_pos rfl]at h;exact⟨m,p,fs,e,h⟩
  ·rw[if_neg z]at h;exact h.elim
 ·exact h.elim
section
variable{e:Expr}{mn:Str}{n:Nat}{p1 ap ep:Pos}
def DW{H₀:Hp}{Q:VK}{Q':List V->Hp->Prop}{r:List D->O}(sr:StR X.K G₀ H₀ G H σ ρ)(h:CO X G₀ H₀ σ Q ((gl ρ).out ρ λds=>if ds.length=n then r ds else .no))(hk:∀vs G1 H1 ds,StR X.K G₀ H₀ G1 H1 σ ρ->Reps X.K G1 vs ds->ds.length=n->CO X G₀ H₀ σ Q (r ds)->Q' vs H1):tAF X gl σ H Q':=by
 refine tX.read sr (λds e vs G1 H1 u s1 rr=>?_) (λC e=>?_) λe=>?_
 ·rw[e]at h;have h:CO X G₀ H₀ σ Q (if ds.length=n then r ds else .no):=h;by_cases hz:ds.length=n;·rw[if_pos hz]at h;exact hk vs G1 H1 ds s1 rr hz h
  ·rw[if_neg hz]at h;exact h.elim
 ·rw[e]at h;exact h
 ·rw[e]at h;exact h
def oA{H₀:Hp}{fs:List (Nat×Fd)}{Q:VK}{mm:Bool}(M:FnM X.prog X.w X.K X.mg X.base k f fd ps C F)(hr:Room k X.A)(hb:Binds X.K fd ps [])(hl:ps.length=n+1)(I:Inv X pins σ H s)(r:Vals vs us)(rp:Reps X.K G vs ds)(hz:ds.length=n)(sr:StR X.K G₀ H₀ G H σ ρ)(e1:ρ[i]?=some (some (.obj mm C p fs)))(h:CO X G₀ H₀ σ Q ((F fs ds).outX mm C p i ρ)):wpAny (model X.prog X.w) X.A (call (.ref f) (.ref p::us)) (EP X pins σ Q) X.xe s:=by
 obtain⟨ow1,o1,o2⟩:=sr.ob;obtain⟨_,ob1⟩:=o2 i mm C p fs e1;refine qA M hr hb hl I r rp hz sr.e.sub (λa t q=>(jl q).2.2.1) ob1.cut ?_;cases q:F fs ds with
 |ok d fs'=>
  rw[q]at h;cases mm with
  |false=>exact h.elim
  |true=>exact λv G' H' ow' u ob rv=>h v G' H' (sr.meth e1 o1 o2 u ob) rv
 |rd d=>rw[q]at h;exact λv G' H' u rv=>h v G' H' (sr.ups u) rv
 |ex C'=>rw[q]at h;exact Exx.fly sr h
 |no=>rw[q]at h;exact h.elim
def J1{pl:Sem Bool}(i:Nat)(c:CF X.K C ks)(m:MCallee X.prog X.w X.K X.mg X.base C mn k n F)(hr:Room k X.A)(ha:PFA X (e::es) gl)(hi:X.N[i]?=some x:=by rfl)(hv:Vis X.env.scope x:=by first|exact Or.inl rfl|exact Or.inr (Or.inl rfl)|exact Or.inr (Or.inr rfl))(hd:(x==("__debug__":Str))=false:=by decide)(hcd:(x==("__classdict__":Str))=false:=by decide)(hmn:∀k,k<fnames.length->(mn==dg k)=false:=by decide)(hst:starEach (e::es) X.env=(false,eval e X.env)::starEach es X.env:=by rfl)(hpl:(backTo pos (starEach es X.env)).any (·.1)=false:=by rfl)(ht:eval (.Call (.Attribute (.Name x p1) mn ap) (e::es) [] pos) X.env=(do
 let ov <- eval (.Name x p1) X.env
 standAt ap.atName
 let (f,first) <- holding [ov] (getMethod ov mn pl)
 callWith pos f first (backTo pos (starEach (e::es) X.env)) (backToKw pos (keywordEach [] X.env))):=by rfl):
  PFX X (.Call (.Attribute (.Name x p1) mn ap) (e::es) [] pos) (iZ C i n F gl):=λG₀ H₀ pins s σ H Q I h=>by
 obtain⟨f,fd,ps,M,hm,hb,hl⟩:=m.ex;obtain⟨G,ρ,sr,h⟩:=h;obtain⟨mm,p,fs,e1,h⟩:=yZ h;obtain⟨h1,_⟩:=sr.e.obs i mm C p fs e1;have v:PE X (.Name x p1) (Gz i):=dA hi hv hd hcd;refine PySem.W.methodCall_KW (thn (v pins s σ H (λu H'=>u=.ref p/\H'=H) I ⟨_,h1,rfl,rfl⟩) λu s1 ⟨v',H',I',rv,ev,eh⟩=>?_) ht;subst ev eh;obtain rfl:u=Value.ref p:=rv;obtain⟨_,ow,ob0⟩:=sr.e.obs i mm C p fs e1;obtain⟨dx,vs,g1,g2,g3,g4,g5,g6,g7,g8⟩:=ob0.ins c.ne;refine kn I' g1 c.cl hm (g8.none hmn) ?_;have t:tAF X gl σ H' (λvs H1=>∃G1 ds,StR X.K G₀ H₀ G1 H1 σ ρ/\Reps X.K G1 vs ds/\ds.length=n/\CO X G₀ H₀ σ Q ((F fs ds).outX mm C p i ρ)):=
  DW sr h λvs G1 H1 ds s1 r hz h=>⟨G1,ds,s1,r,hz,h⟩
 refine PySem.W.callWith_K I.ok.mod.kin hm.kp (thn (ha pos pins s1 σ H' _ I' t) λus s2 q=>⟨?_,?_⟩) hst hpl;·obtain⟨vs,H1,I1,r,_⟩:=q;exact I1.kIn
 obtain⟨vs,H1,I1,r,G1,ds,s2,rp,hz,h2⟩:=q;exact oA M hr hb hl I1 r rp hz s2 e1 h2
end
structure CalleeM(P:Program)(w:World)(K:PySem.W.Frag)(mg:Str->Option Value)(base:Heap)(C:Addr)(x:Str)(k n:Nat)(F:MF):Prop where
 ex:∃f fd ps,FnM P w K mg base k f fd ps C F/\mg x=some (.ref f)/\PySem.W.keepIn K (.ref f)=true/\Binds K fd ps []/\ps.length=n+1
def CalleeM.mono{w:World}{K:PySem.W.Frag}{mg:Str->Option Value}{base:Heap}{n:Nat}(c:CalleeM P w K mg base C x k n F)(k':Nat)(h:k<=k':=by decide):CalleeM P w K mg base C x k' n F:=by obtain⟨f,fd,ps,M,hm,hk,hb,e⟩:=c.ex;exact⟨f,fd,ps,{ M with run:=λA outer s H args us vs Q E hr=>M.run A outer s H args us vs Q E (hr.mono h) },hm,hk,hb,e⟩
section
variable{n:Nat}{p1:Pos}
def oE(i:Nat)(c:CalleeM X.prog X.w X.K X.mg X.base C x k n F)(hr:Room k X.A)(ha:PFA X es gl)(hi:X.N[i]?=some y:=by rfl)(hv:Vis X.env.scope y:=by first|exact Or.inl rfl|exact Or.inr (Or.inl rfl)|exact Or.inr (Or.inr rfl))(hd:(y==("__debug__":Str))=false:=by decide)(hcd:(y==("__classdict__":Str))=false:=by decide)(hg:Gl X x:=by rfl)(hdb:(x==("__debug__":Str))=false:=by decide)(hst:starEach (.Name y py::es) X.env=(false,eval (.Name y py) X.env)::starEach es X.env:=by rfl)(hpl:(backTo pos (starEach es X.env)).any (·.1)=false:=by rfl):
  PFX X (.Call (.Name x p1) (.Name y py::es) [] pos) (iZ C i n F gl):=λG₀ H₀ pins s σ H Q I h=>by
 obtain⟨f,fd,ps,M,hm,hk,hb,hl⟩:=c.ex;obtain⟨G,ρ,sr,h⟩:=h;obtain⟨mm,p,fs,e1,h⟩:=yZ h;obtain⟨h1,_⟩:=sr.e.obs i mm C p fs e1;have v:PE X (.Name y py) (Gz i):=dA hi hv hd hcd;refine wpAny_Call_Name_kw (mi I hg hm ?_ hdb);have t:CY (Gz i) (tAF X gl) σ H (λvs H1=>∃ws G1 ds,vs=.ref p::ws/\StR X.K G₀ H₀ G1 H1 σ ρ/\Reps X.K G1 ws ds/\ds.length=n/\CO X G₀ H₀ σ Q ((F fs ds).outX mm C p i ρ)):=
  ⟨_,h1,DW sr h λvs G1 H1 ds s1 r hz h=>⟨vs,G1,ds,rfl,s1,r,hz,h⟩⟩
 refine PySem.W.callWith_K I.ok.mod.kin hk (thn (cW v ha hst pos pins s σ H _ I t) λus s2 q=>⟨?_,?_⟩) hst hpl;·obtain⟨vs,H1,I1,r,_⟩:=q;exact I1.kIn
 obtain⟨vs,H1,I1,r,ws,G1,ds,rfl,s2,rp,hz,h2⟩:=q;cases r with
 |cons ru r=>obtain rfl:=ru;exact oA M hr hb hl I1 r rp hz s2 e1 h2
end
noncomputable def HY(P:Program)(w:World)(K:PySem.W.Frag)(mg:Str->Option Value)(base:Heap)(k:Nat)(s1:Shared)(G1 H1:Hp)(f:Addr)(Q:VK):Prop:=
 ∀(Y:Cx)(pins:List (Addr×Obj))(σY:St)(G2 H2:Hp)(s2:Shared)(fs:List Addr),Y.prog=P->Y.w=w->Y.K=K->Y.mg=mg->Y.base=base->Inv Y pins σY H2 s2->Room k Y.A->Un fs [] H1 H2 s1.heap s2.heap->Up G1 H1 G2 H2->
  (∃o fd,s2.heap.get? f=some o/\o.data=.func fd)/\wpAny (model Y.prog Y.w) Y.A (call (.ref f) []) (EP Y pins σY Q) Y.xe s2
structure ToldOk(P:Program)(w:World)(K:PySem.W.Frag)(mg:Str->Option Value)(base:Heap)(x:Str)(k j:Nat):Prop where
 ex:∃ft,mg x=some (.ref ft)/\PySem.W.keepIn K (.ref ft)=true/\∀(A:Around)(outer:List Env)(s1:Shared)(G1 H1:Hp)(f:Addr)(Q:VK)(E:XK),Room k A->Env0 P w K mg base A outer s1 H1->Same G1 H1->HY P w K mg base j s1 G1 H1 f Q->
  codeAny (model P w) A (.call (.ref ft) ⟨[.ref f],[]⟩) (CR (CXo P w) outer P w H1 s1 Q E) s1
section
noncomputable def Md(i j k:Nat)(ta:TA):TS:=λD σ H=>ta σ H λvs H1=>∃v w u,vs=[v,w,u]/\D.nx (((σ.set i (some v)).set j (some w)).set k (some u)) H1
def EI{z:Str}{a b c:Expr}{px pz pt:Pos} {kt k2 pt2} (hc:X.calm=true) (hN:X.N.Nodup) (hi:X.N[i]?=some x) (hj:X.N[j]?=some y) (hk:X.N[k]?=some z) (hij:i≠j) (hik:i≠k) (hjk:j≠k)
 (hx:X.env.scope.names.lookup x=some .local) (hy:X.env.scope.names.lookup y=some .local) (hz:X.env.scope.names.lookup z=some .local) (ha:PA X [a,b,c] ta)
 (hw:swappedStores [.Tuple [.Name x px,.Name y py,.Name z pz] kt pt] (.Tuple [a,b,c] k2 pt2) X.env=pure (some [x,y,z]))
 (hs:swapsWithSole [.Tuple [.Name x px,.Name y py,.Name z pz] kt pt] (.Tuple [a,b,c] k2 pt2) pos.line X.env=pure false:=by rfl) :
  PS X (.Assign [.Tuple [.Name x px,.Name y py,.Name z pz] kt pt] (.Tuple [a,b,c] k2 pt2) pos) (Md i j k ta):=by
 intro pins s σ H D I h;refine wpAny_bind (wpAny_standAt ?_);refine wpAny_bind (wpAny_pure ?_);refine wpAny_bind (Tuple_ (thn (ha _ pins s σ H _ I h) λus s1 ⟨vs,H1,I1,r1,q1⟩=>?_));obtain⟨v,w,u,e1,q1⟩:=q1;subst e1;obtain⟨u1,u2,u3,rfl,rv,rw',ru⟩:∃u1 u2 u3,us=[u1,u2,u3]/\RelV v u1/\RelV w u2/\RelV u u3:=by
  cases r1 with
  |cons p q=>
   cases q with
   |cons p' q'=>
    cases q' with
    |cons p'' q''=>cases q'';exact⟨_,_,_,rfl,p,p',p''⟩
 refine wpAny_newObj_type ?_ (by show 3<=sizeLine;decide);have I2:Inv X pins σ H1 { s1 with heap:=s1.heap.push { cls:=.type "tuple",data:=.seq [u1,u2,u3].toArray } }:=I1.kept λb o e=>Heap.get?_push_of_some _ e;rw[hw];refine wpAny_bind (wpAny_pure ?_);refine wpAny_bind (wpAny_rule (wpAny_bind (unpackItems_tuple (items:=#[u1,u2,u3]) (I.ok.hd hc) (IsTup.new s1.heap _) λh' hx'=>?_)));have I3:=I2.kept (t':=s1.toks) λb o e=>hx' b o (Nat.ne_of_lt (Heap.lt_size e)) e;refine wpAny_bind (assignInOrder_cons (wpAny_bindName (iI I3 hN hk (.inl hz) ru (λs2 I4=>?_) (.inr hz))));refine assignInOrder_cons (wpAny_bindName (iI I4 hN hj (.inl hy) rw' (λs3 I5=>?_) (.inr hy)));refine assignInOrder_cons (wpAny_bindName (iI I5 hN hi (.inl hx) rv (λs4 I6=>assignInOrder_nil (wpAny_pure ?_)) (.inr hx)));rw[List.set_comm _ _ (Ne.symm hij),List.set_comm _ _ (Ne.symm hik),List.set_comm _ _ (Ne.symm hjk)]at I6;exact⟨_,H1,I6,q1⟩
end
noncomputable def fg(g:Ev->O):Ev->O:=λρ=>(g ρ).thenX λ_ ρ'=>.nx ρ'
def oB{e:Expr}(h:PFX X e g)(hs:swapsWith e none pos.line X.env=pure false:=by rfl):PSF X (.Expr e pos) (fg g):=λG₀ H₀ pins s σ H D I ⟨G,ρ,sr,q⟩=>by
 refine jx (h G₀ H₀) hs pins s σ H D I ⟨G,ρ,sr,?_⟩;unfold fg at q;cases e:g ρ with
 |re d ρ'=>rw[e]at q;exact λv G' H' s' r=>q σ G' H' s'
 |ex C ρ'=>rw[e]at q;exact q
 |_=>rw[e]at q;exact q.elim
end L2
namespace L2
open PySem PySem.Spec PyProof.Rows
open PySem.AutoSeq1 (wpAny_loadPart')
open PySem.MeetsSeq PySem.MeetsSeq2 PySem.MeetsSeq3
inductive NumPairs:List (Value×Value)->List Int->List Int->Prop
 |nil:NumPairs [] [] []
 |cons {zs:List (Value×Value)} {xs ys:List Int} (i:Int) (t:Addr) (j:Int) (u:Addr) (r:NumPairs zs xs ys):NumPairs ((.int i t,.int j u)::zs) (i::xs) (j::ys)
end L2
namespace L2
open PySem PySem.Spec PyProof.Rows
section
variable{elt:Expr}{ifs:List Expr}{px:Pos}{gt:Ev->R Bool}
structure CompOkC(X:Cx)(scope:Scope)(x:Str):Prop where
 kind:scope.kind=.function
 names:∀y∈scope.names,y.2=.local->scope.names.lookup y.1=some .local
 nofree:∀y∈scope.names,y.2≠.free
 cells:∀L,cellsFrom L scope.names []=[(x,L)]
 lk:scope.names.lookup x=some .cell
 only:∀y,scope.names.lookup y=some .cell->y=x
end
noncomputable abbrev TF:=List (Nat×Fd)->Option (List (Nat×Fd))
noncomputable def spT(K:PySem.W.Frag)(C:Addr)(F:TF):Sp:=λvs H Q E=>∃G p fs ow,vs=[.ref p]/\Same G H/\(∀a t,ow a=some t->G a=none)/\ObjAt K (λ_=>none) G H ow 0 true C p fs/\
 ∃fs',F fs=some fs'/\∀x G' H' ow',Up G H G' H'->ObjAt K H G' H' ow' 0 true C x fs'->Q (.ref x) H'
noncomputable abbrev FnT(P:Program)(w:World)(K:PySem.W.Frag)(mg:Str->Option Value)(base:Heap)(k:Nat)(f:Addr)(fd:FuncData)(ps:List Str)(C:Addr)(F:TF):Prop:=FnOk P w K mg base (CXo P w) k f fd ps (λvs H Q E=>vs.length=ps.length/\spT K C F vs H Q E)
structure TCallee(P:Program)(w:World)(K:PySem.W.Frag)(mg:Str->Option Value)(base:Heap)(C:Addr)(mn:Str)(k:Nat)(F:TF):Prop where
 ex:∃f fd ps,FnT P w K mg base k f fd ps C F/\Meth K C mn f/\Binds K fd ps []/\ps.length=1
noncomputable def tf:D->Option Nat
 |.tup [.bl a,.bl b]=>some (code a b)
 |_=>none
noncomputable def fvs:List (Nat×Fd)->Option (List (Nat×D))
 | []=>some []
 | (k,.val d)::r=>(fvs r).map ((k,d)::·)
 | (_,.own _)::_=>none
noncomputable def sH(ρ:Ev)(i:Nat):R (List (Nat×D)):=match ρ[i]? with
 |some (some (.val (.dct ks ds)))=>.ok (ks.zip ds)
 |some (some (.obj _ C _ fs))=>if C=DC then ofO (fvs fs)else .no
 |_=>.no
def An(e:sH ρ i=.ex C):False:=by
 unfold sH at e;split at e;·cases e
 ·split at e;·revert e;unfold ofO;split <;> exact λz=>nomatch z
  ·cases e
 ·cases e
theorem ue:∀(ks:List Nat)(ds:List D),fvs (ks.zip (ds.map Fd.val))=some (ks.zip ds)
 | [],_=>rfl
 |_::_,[]=>rfl
 |k::ks,d::ds=>by simp only[List.map_cons,List.zip_cons_cons,fvs,ue ks ds,Option.map_some]
def wv:∀a b c d:Bool,code a b=code c d->a=c/\b=d:=by decide
section
variable{K:PySem.W.Frag}
theorem KeysAt.inH(s:Same G H):∀{xs:DX}{ks:List Nat},KeysAt K G xs ks->iG K H xs
 |_,_,.nil,x,hx=>nomatch hx
 |_,_,.cons h t,x,hx=>by
  rcases List.mem_cons.1 hx with rfl|hx;·exact h.mono s
  ·exact KeysAt.inH s t x hx
theorem KeysAt.twos:∀{xs:DX}{ks:List Nat},KeysAt K G xs ks->LZ xs
 |_,_,.nil,x,hx=>nomatch hx
 |_,_,.cons h t,x,hx=>by
  rcases List.mem_cons.1 hx with rfl|hx;·exact⟨_,_,rfl⟩
  ·exact KeysAt.twos t x hx
def KeysAt.length:∀{xs:DX}{ks:List Nat},KeysAt K G xs ks->xs.length=ks.length
 |_,_,.nil=>rfl
 |_,_,.cons _ t=>by simp[t.length]
def KeysAt.look{a b:Bool}:∀{xs:DX}{ks:List Nat}{ds:List D},KeysAt K G xs ks->Reps K G (xs.map (·.2.2)) ds->
  ((ks.zip ds).lookup (code a b)=none/\nR xs [a,b]=none)\/∃d v,(ks.zip ds).lookup (code a b)=some d/\nR xs [a,b]=some v/\Rep K G v d
 |_,_,_,.nil,.nil=>.inl ⟨rfl,rfl⟩
 |_,_,_,.cons (a:=c) (b:=e) h t,.cons r q=>by
  by_cases z:[c,e]=[a,b]
  ·cases z;exact .inr ⟨_,_,by simp[List.lookup_cons],by simp[nR,List.find?_cons],r⟩
  ·have z':(code a b==code c e)=false:=beq_eq_false_iff_ne.2 λy=>z (by obtain⟨rfl,rfl⟩:=wv _ _ _ _ y;rfl);rcases t.look q with⟨e1,e2⟩|⟨d,v,e1,e2,e3⟩;·exact .inl ⟨by simp only[List.zip_cons_cons,List.lookup_cons,z'];exact e1,by unfold nR at e2⊢;simp only[List.find?_cons,z,decide_false];exact e2⟩
   ·exact .inr ⟨d,v,by simp only[List.zip_cons_cons,List.lookup_cons,z'];exact e1,by unfold nR at e2⊢;simp only[List.find?_cons,z,decide_false];exact e2,e3⟩
def lw{n:Nat}(e:tf d=some n)(r:Rep K G v d):∃q a b,v=.ref q/\n=code a b/\SqT K G q [.bl a,.bl b]:=by
 unfold tf at e;split at e
 ·rename_i a b;cases e;obtain⟨q,vs,rfl,hq,rs⟩:=r.tup_inv;cases rs with
  |cons r1 t=>
   cases t with
   |cons r2 t=>cases t;obtain rfl:=r1.bl_inv;obtain rfl:=r2.bl_inv;exact⟨q,a,b,rfl,rfl,hq⟩
 ·cases e
def StE.dct{σ:St}{ρ:Ev}{i:Nat}{kv:List (Nat×D)}(st:StE K G H σ ρ)(e:sH ρ i=.ok kv):
  ∃a o xs ks ds,σ[i]?=some (some (.ref a))/\H a=some (DctO a o xs)/\KeysAt K G xs ks/\Reps K G (xs.map (·.2.2)) ds/\kv=ks.zip ds:=by
 unfold sH at e;split at e
 ·rename_i ks ds q;cases e;obtain⟨v,h1,r⟩:=st.val i _ q;cases r with
  |dct h k r=>exact⟨_,_,_,ks,ds,h1,st.sub _ _ h,k,r,rfl⟩
 ·rename_i m C p fs q;split at e;·rename_i z;obtain⟨h1,ow,ob⟩:=st.obs i m C p fs q;rw[z]at ob;obtain⟨o,xs,ks,ds,g1,g2,g3,g4,g5,g6,g7⟩:=ob.dco;rw[g7,ue]at e;cases e;exact⟨p,o,xs,ks,ds,h1,g1,g5,g6,rfl⟩
  ·cases e
 ·cases e
end
section
variable{e:Expr}{ga:Ev->R D}{p:Pos}
noncomputable def LC(K:PySem.W.Frag)(neg:Bool):R2:=λx y H Q=>∃q k a o xs,x=.ref q/\y=.ref a/\H a=some (DctO a o xs)/\iG K H xs/\SqT K H q (k.map V.bl)/\Q (.bl (if neg then !(nR xs k).isSome else (nR xs k).isSome)) H
def IR(hu:X.A.units+64<cLine):OpR X (compareOp .In) (LC X.K false):=by intro pins s σ H x y v u Q I rx ry ⟨q,k,a,o,xs,ex,ey,h1,h2,h3,h4⟩;subst ex ey;cases rx;cases ry;exact Im (by omega) I h1 h2 h3 λs' I'=>⟨.bl _,H,I',rfl,h4⟩
def G9(hu:X.A.units+64<cLine):OpR X (compareOp .NotIn) (LC X.K true):=by intro pins s σ H x y v u Q I rx ry ⟨q,k,a,o,xs,ex,ey,h1,h2,h3,h4⟩;subst ex ey;cases rx;cases ry;exact Au (by omega) I h1 h2 h3 λs' I'=>⟨.bl _,H,I',rfl,h4⟩
noncomputable def qO(neg:Bool)(i:Nat)(ge:Ev->R D):Ev->R Bool:=λρ=>ge ρ>>=λd=>ofO (tf d)>>=λn=>sH ρ i>>=λkv=>.ok (if neg then !(kv.lookup n).isSome else (kv.lookup n).isSome)
def vC{Q:Bool->Hp->Prop}(h:tTF X (qO neg i ge) σ H Q):FO (tOp (LC X.K neg) (tF X ge) (Gz i)) σ H Q:=by
 obtain⟨G,ρ,st,h⟩:=h;refine tG.intro st h λd v G1 H1 u1 st1 r1 h1=>?_;obtain⟨n,e1,h1⟩:∃n,tf d=some n/\(sH ρ i>>=λkv=>R.ok (if neg then !(kv.lookup n).isSome else (kv.lookup n).isSome)).post (Fin G1 H1 (λ_ b c=>b=c) Q) (Exx X σ G1 H1):=by
  cases q:tf d with
  |none=>rw[q]at h1;exact h1.elim
  |some n=>rw[q]at h1;exact⟨n,rfl,h1⟩
 cases q0:sH ρ i with
 |ok kv=>
  rw[q0]at h1;obtain⟨q,a,b,rfl,rfl,hq⟩:=lw e1 r1;obtain⟨c,o,xs,ks,ds,g1,g2,g3,g4,rfl⟩:=st1.dct q0;refine⟨.ref c,g1,q,[a,b],c,o,xs,rfl,rfl,g2,g3.inH st1.sub,hq.mono st1.sub,_,rfl,?_⟩;have e2:(nR xs [a,b]).isSome=((ks.zip ds).lookup (code a b)).isSome:=by rcases g3.look g4 with⟨y1,y2⟩|⟨d,v,y1,y2,_⟩ <;> rw[y1,y2] <;> rfl
  rw[e2];exact h1 _ G1 H1 (.refl st1.sub) rfl
 |ex C=>exact(An q0).elim
 |no=>rw[q0]at h1;exact h1.elim
def BX(i:Nat)(hu:X.A.units+64<cLine)(he:PF X e ge)(hi:X.N[i]?=some x:=by rfl)(hv:Vis X.env.scope x:=by first|exact Or.inl rfl|exact Or.inr (Or.inl rfl)|exact Or.inr (Or.inr rfl))(hd:(x==("__debug__":Str))=false:=by decide)(hcd:(x==("__classdict__":Str))=false:=by decide)(hm:behindInMarks .In (.Name x p)=false:=by rfl):PB X (.Compare e [.In] [.Name x p] pos) (qO false i ge):=λpins s σ H Q I h=>
 qb (IR hu) he (dA hi hv hd hcd) hm pins s σ H Q I (vC h)
def H8(i:Nat)(hu:X.A.units+64<cLine)(he:PF X e ge)(hi:X.N[i]?=some x:=by rfl)(hv:Vis X.env.scope x:=by first|exact Or.inl rfl|exact Or.inr (Or.inl rfl)|exact Or.inr (Or.inr rfl))(hd:(x==("__debug__":Str))=false:=by decide)(hcd:(x==("__classdict__":Str))=false:=by decide)(hm:behindInMarks .NotIn (.Name x p)=false:=by rfl):PB X (.Compare e [.NotIn] [.Name x p] pos) (qO true i ge):=λpins s σ H Q I h=>
 qb (G9 hu) he (dA hi hv hd hcd) hm pins s σ H Q I (vC h)
noncomputable def LN(K:PySem.W.Frag):R2:=λx y H Q=>∃a o xs q k v,x=.ref a/\y=.ref q/\H a=some (DctO a o xs)/\iG K H xs/\SqT K H q (k.map V.bl)/\nR xs k=some v/\Q v H
def JI(hu:X.A.units+64<cLine):IxR X (LN X.K):=by intro value slice pins s σ H x y v u Q I rx ry ⟨a,o,xs,q,k,w,ex,ey,h1,h2,h3,h4,h5⟩ hs;subst ex ey;cases rx;cases ry;obtain⟨g1,_,_,g2,_⟩:=lY I h1;exact tail_any ⟨o,g1,g2.1⟩ PySem.F.slot_dict_getitem.lookup (F5 (by omega) I h1 h2 h3 h4 λw' s' I' r=>⟨w,H,I',r,h5⟩) hs
noncomputable def iz(i:Nat)(ge:Ev->R D):Ev->R D:=λρ=>sH ρ i>>=λkv=>ge ρ>>=λd=>ofO ((tf d).bind λn=>kv.lookup n)
def rQ(i:Nat)(hu:X.A.units+64<cLine)(he:PF X e ge)(hi:X.N[i]?=some x:=by rfl)(hv:Vis X.env.scope x:=by first|exact Or.inl rfl|exact Or.inr (Or.inl rfl)|exact Or.inr (Or.inr rfl))(hd:(x==("__debug__":Str))=false:=by decide)(hcd:(x==("__classdict__":Str))=false:=by decide)(hs:qF e:=by intro _ _;rfl):PF X (.Subscript (.Name x p) e pos) (iz i ge):=λpins s σ H Q I h=>by
 refine FX (JI hu) (dA hi hv hd hcd) he hs pins s σ H Q I ?_;obtain⟨G,ρ,st,h⟩:=h;have h:(sH ρ i>>=λkv=>ge ρ>>=λd=>ofO ((tf d).bind λn=>kv.lookup n)).post (Fin G H (Rep X.K) Q) (Exx X σ G H):=h;cases q:sH ρ i with
 |ok kv=>
  rw[q]at h;obtain⟨c,o,xs,ks,ds,g1,g2,g3,g4,rfl⟩:=st.dct q;refine⟨.ref c,g1,tG.intro st h λd v G1 H1 u1 st1 r1 h1=>?_⟩;obtain⟨w,e2,h1⟩:=ofO.ok h1;cases e1:tf d with
  |none=>rw[e1]at e2;cases e2
  |some n=>
   rw[e1]at e2;have e2:(ks.zip ds).lookup n=some w:=e2;obtain⟨q,a,b,rfl,rfl,hq⟩:=lw e1 r1;rcases g3.look g4 with⟨y1,_⟩|⟨d',v',y1,y2,y3⟩;·rw[y1]at e2;cases e2
   ·rw[y1]at e2;cases e2;exact⟨c,o,xs,q,[a,b],v',rfl,rfl,u1.hh _ _ g2,λz hz=>(g3.inH st.sub z hz).mono u1.hh,hq.mono st1.sub,y2,h1 v' G1 H1 (.refl st1.sub) (y3.mono u1.gg)⟩
 |ex C=>exact(An q).elim
 |no=>rw[q]at h;exact h.elim
end
section
variable{K:PySem.W.Frag}{a b:Bool}
def KeysAt.same:∀{xs:DX}{ks:List Nat},KeysAt K G xs ks->[a,b]∉xs.map (·.1)->xs.map (λx=>if x.1=[a,b]then (x.1,x.2.1,v)else x)=xs
 |_,_,.nil,_=>rfl
 |_,_,.cons h t,n=>by rw[List.map_cons,List.mem_cons,not_or]at n;rw[List.map_cons,if_neg (λz=>n.1 z.symm),t.same n.2]
theorem AV{n:Nat}{fd:Fd}:∀{fs:List (Nat×Fd)},fs.lookup n=none->jG n fd fs=fs++[(n,fd)]
 | [],_=>rfl
 | (k,f)::fs,h=>by
  have ne:(n==k)=false:=by
   cases z:n==k with
   |false=>rfl
   |true=>simp only[List.lookup_cons,z]at h;cases h
  simp only[List.lookup_cons,ne]at h;unfold jG;rw[if_neg (λz=>by rw[z]at ne;simp at ne),AV h];rfl
def KeysAt.snoc:∀{xs:DX}{ks:List Nat},KeysAt K G xs ks->SqT K G q [.bl a,.bl b]->KeysAt K G (xs++[([a,b],q,v)]) (ks++[code a b])
 |_,_,.nil,h=>.cons h .nil
 |_,_,.cons h t,z=>.cons h (t.snoc z)
theorem mh{n:Nat}:∀{ks:List Nat}{ds:List D},(ks.zip ds).lookup n=none->(ks.zip (ds.map Fd.val)).lookup n=none
 | [],_,_=>rfl
 |_::_,[],_=>rfl
 |k::ks,d::ds,h=>by
  rw[List.zip_cons_cons,List.lookup_cons]at h;rw[List.map_cons,List.zip_cons_cons,List.lookup_cons];cases z:n==k with
  |true=>rw[z]at h;cases h
  |false=>rw[z]at h;exact mh h
def KeysAt.over:∀{xs:DX}{ks:List Nat}{ds:List D},KeysAt K G xs ks->Reps K G (xs.map (·.2.2)) ds->(xs.map (·.1)).Nodup->(nR xs [a,b]).isSome=true->Rep K G v d->
  KeysAt K G (xs.map λx=>if x.1=[a,b]then (x.1,x.2.1,v)else x) ks/\∃ds',Reps K G ((xs.map λx=>if x.1=[a,b]then (x.1,x.2.1,v)else x).map (·.2.2)) ds'/\jG (code a b) (.val d) (ks.zip (ds.map Fd.val))=ks.zip (ds'.map Fd.val)
 |_,_,_,.nil,.nil,_,h,_=>by cases h
 |_,_,_,.cons (a:=c) (b:=e) (xs:=ys) h t,.cons (ds:=ds) r1 r2,n,hv,r=>by
  rw[List.map_cons,List.nodup_cons]at n;by_cases z:[c,e]=[a,b]
  ·cases z;rw[List.map_cons,if_pos rfl,t.same n.1];exact⟨.cons h t,d::ds,.cons r r2,by simp[jG]⟩
  ·have z':code c e≠code a b:=λy=>z (by obtain⟨rfl,rfl⟩:=wv _ _ _ _ y;rfl);have hv':(nR ys [a,b]).isSome=true:=by unfold nR at hv⊢;simpa only[List.find?_cons,z,decide_false]using hv
   obtain⟨k1,ds',k2,k3⟩:=t.over r2 n.2 hv' r;rw[List.map_cons,if_neg z];refine⟨.cons h k1,_::ds',.cons r1 k2,?_⟩;simp only[List.map_cons,List.zip_cons_cons,jG,if_neg z',k3]
def KeysAt.put{xs:DX}(k:KeysAt K G xs ks)(rs:Reps K G (xs.map (·.2.2)) ds)(n:(xs.map (·.1)).Nodup)(hq:SqT K G q [.bl a,.bl b])(r:Rep K G v d):
  ∃ks' ds',KeysAt K G (CV xs [a,b] q v) ks'/\Reps K G ((CV xs [a,b] q v).map (·.2.2)) ds'/\jG (code a b) (.val d) (ks.zip (ds.map Fd.val))=ks'.zip (ds'.map Fd.val):=by
 unfold CV;by_cases z:(nR xs [a,b]).isSome=true;·rw[if_pos z];obtain⟨k1,ds',k2,k3⟩:=k.over rs n z r;exact⟨ks,ds',k1,k2,k3⟩
 ·rw[if_neg z];refine⟨ks++[code a b],ds++[d],k.snoc hq,?_,?_⟩;·rw[List.map_append];exact rs.append (.cons r .nil)
  ·rcases k.look rs with⟨y1,_⟩|⟨_,_,_,y2,_⟩
   ·have ln:ks.length=(ds.map Fd.val).length:=by rw[List.length_map,<- rs.length,List.length_map,k.length]
    rw[AV (mh y1),List.map_append,List.zip_append ln];rfl
   ·rw[y2]at z;exact absurd rfl z
end
theorem DRel.keys:∀{xs:DX}{us:DU},DRel xs us->xs.map (·.1)=us.map (·.1)
 |_,_,.nil=>rfl
 |_,_,.cons h t=>by rw[List.map_cons,List.map_cons,h.1,DRel.keys t]
noncomputable def K6(K:PySem.W.Frag):Kz:=λx y v H Q=>∃a o xs q k,x=.ref a/\y=.ref q/\H a=some (DctO a o xs)/\iG K H xs/\SqT K H q (k.map V.bl)/\xs.length<sizeLine/\((xs.map (·.1)).Nodup->∀o',Q (upd H a (DctO a o' (CV xs k q v))))
section
variable{e ix:Expr}{ga gk:Ev->R D}{p tp:Pos}
def FP(hu:X.A.units+64<cLine):K8 X (K6 X.K):=by intro pins s σ H o i v ov iv u Q I ro ri rv ⟨a,ob,xs,q,k,eo,ei,h1,h2,h3,h4,h5⟩;subst eo ei;cases ro;cases ri;obtain⟨_,_,_,_,us,r,_,_,_,_,n⟩:=lY I h1;rw[<- DRel.keys r]at n;exact E2 (by omega) I h1 h2 h3 h4 rv λo' s' I'=>⟨_,I',h5 n o'⟩
noncomputable def Cq(i:Nat)(gk ga:Ev->R D):Ev->O:=λρ=>(rW DC ρ i).out ρ λo=>(fw (ga ρ)).out ρ λd=>(fw (gk ρ)).out ρ λk=>match tf k with
 |some n=>if o.2.length<900 then .nx (ρ.set i (some (.obj true DC o.1 (jG n (.val d) o.2))))else .no
 |none=>.no
def IC(i:Nat)(hu:X.A.units+64<cLine)(he:PF X e ga)(hk:PF X ix gk)(hi:X.N[i]?=some x:=by rfl)(hv:Vis X.env.scope x:=by first|exact Or.inl rfl|exact Or.inr (Or.inl rfl))(hd:(x==("__debug__":Str))=false:=by decide)(hcd:(x==("__classdict__":Str))=false:=by decide)(hs:swapsWithSole [.Subscript (.Name x p) ix tp] e pos.line X.env=pure false:=by rfl)(hw:swappedStores [.Subscript (.Name x p) ix tp] e X.env=pure none:=by rfl)(h1':(assignEach [.Subscript (.Name x p) ix tp] X.env).map (·.2)=[assign (.Subscript (.Name x p) ix tp) X.env]:=by rfl)(ha:∀v,assign (.Subscript (.Name x p) ix tp) X.env v=(do
 let ov <- holding [v] (eval (.Name x p) X.env);let iv <- holding [v,ov] (eval ix X.env)
 standAt tp
 holding [v,ov,iv] (setItem ov iv v)
 release [v,ov,iv] []):=by intro _;rfl):
  PSF X (.Assign [.Subscript (.Name x p) ix tp] e pos) (Cq i gk ga):=λG₀ H₀ pins s σ H D I ⟨G,ρ,sr,h⟩=>by
 refine kU he (Eo (dA hi hv hd hcd) hk (FP hu) ha) hs hw h1' pins s σ H D I ⟨G,ρ,sr.e,?_⟩;obtain⟨pp,fs,e1,h⟩:=qr h;obtain⟨hσ,_⟩:=sr.e.obs i true DC pp fs e1;cases q1:ga ρ with
 |ok d=>
  rw[q1]at h;intro v G1 H1 u1 r1;refine⟨.ref pp,hσ,G1,ρ,(sr.ups u1).e,?_⟩;cases q2:gk ρ with
  |ok k=>
   rw[q2]at h;intro kv G2 H2 u2 r2;have sr2:=(sr.ups u1).ups u2;obtain⟨ow,o1,o2⟩:=sr2.ob;obtain⟨ob,xs,ks,ds,g1,g2,g3,g4,g5,g6,g7⟩:=(o2 i true DC pp fs e1).2.dco;have h:jM X G₀ H₀ D (match tf k with
    |some n=>if fs.length<900 then .nx (ρ.set i (some (.obj true DC pp (jG n (.val d) fs))))else .no
    |none=>.no):=h;cases q3:tf k with
   |none=>rw[q3]at h;exact h.elim
   |some n=>
    rw[q3]at h;have h:jM X G₀ H₀ D (if fs.length<900 then .nx (ρ.set i (some (.obj true DC pp (jG n (.val d) fs))))else .no):=h;by_cases hz:fs.length<900
    ·rw[if_pos hz]at h;obtain⟨q,a,b,rfl,rfl,hq⟩:=lw q3 r2;have xl:xs.length=fs.length:=by have l1:=g5.length;have l2:=g6.length;rw[List.length_map]at l2;rw[g7,List.length_zip,List.length_map];omega
     have lb:900<sizeLine:=by decide
     refine⟨pp,ob,xs,q,[a,b],rfl,rfl,g1,g5.inH sr2.e.sub,hq.mono sr2.e.sub,by omega,λnd o'=>h σ G2 _ ?_⟩;obtain⟨ks',ds',k1,k2,k3⟩:=g5.put g6 nd hq (r1.mono u2.gg);have np:∀c o,H₀ c=some o->c≠pp:=λc o z=>aD z (g3 rfl);refine sr2.objTo e1 o1 o2 (λc o z nt=>?_) (λc o z=>?_) (λc o z=>?_) (λ_ _ _ _ _ z _=>z) (.inr ⟨rfl,o',_,ks',ds',aF,g2,g3,g4,k1,k2,by rw[g7];exact k3⟩);·rw[aw (λy=>nt 0 (by rw[y];exact g4))];exact z
     ·rw[aw (np c o z)];exact sr2.up.hh c o z
     ·rw[aw (aD z g2)];exact sr2.e.sub c o z
    ·rw[if_neg hz]at h;exact h.elim
  |_=>rw[q2]at h;exact h.elim
 |_=>rw[q1]at h;exact h.elim
end
section
variable{cT:List Stmt}{α:Type}{g2:α->Ev->O}{e:Expr}{ga:Ev->R D}{p pos':Pos}
def AL{K:PySem.W.Frag}{p:Addr}{o:Obj}{xs:DX}(s:Same G H)(hp:H p=none)(k:KeysAt K G xs ks)(r:Reps K G (xs.map (·.2.2)) ds):
  Up G H G (upd H p (DctO p o xs))/\ObjAt K H G (upd H p (DctO p o xs)) (λa=>if a=p then some (0,0)else none) 0 true DC p (ks.zip (ds.map Fd.val)):=
 ⟨⟨λa u q=>by rw[aw (aD q (s.free hp))];exact s a u q,.refl _,.into hp,λ_ _ q=>.inl q⟩,.inr ⟨rfl,o,xs,ks,ds,aF,s.free hp,λ_=>hp,if_pos rfl,k,r,rfl⟩⟩
noncomputable def Ed(i:Nat)(g2:α->Ev->O):Addr×α->Ev->O:=λq ρ=>g2 q.2 (ρ.set i (some (.obj true DC q.1 [])))
def E3(i:Nat)(hN:X.N.Nodup)(h2:yc X cT g2)(hi:X.N[i]?=some y:=by rfl)(hx:Loc X.env.scope y:=by first|exact Or.inl rfl|exact Or.inr rfl)(hw:swappedStores [.Name y py] (.Dict [] [] pos) X.env=pure none:=by rfl)(hf:X.fn y=true\/X.env.scope.names.lookup y=some .local:=by first|exact .inl rfl|exact .inr rfl)(hs:swapsWithSole [.Name y py] (.Dict [] [] pos) pos'.line X.env=pure false:=by rfl):yc X (.Assign [.Name y py] (.Dict [] [] pos) pos'::cT) (Ed i g2):=λG₀ H₀ pins s σ H D I ⟨G,ρ,sr,h⟩=>by
 refine iW (kU GY (jn hN hi hx hf) hs hw rfl) (h2 G₀ H₀) pins s σ H D I λq o hq=>?_;obtain⟨u,ob⟩:=AL sr.e.sub hq (.nil:KeysAt X.K G [] []) (.nil:Reps X.K G [] []);exact⟨G,_,sr.setObj u ob i,λq2=>h (q,q2)⟩
noncomputable def Aj(i:Nat)(ga:Ev->R D)(g2:α->Ev->O):Addr×α->Ev->O:=λq ρ=>(fw (ga ρ)).out ρ λd=>match d with
 |.dct (k::ks) ds=>g2 q.2 (ρ.set i (some (.obj true DC q.1 ((k::ks).zip (ds.map Fd.val)))))
 |_=>.no
def CT[Inhabited α](i:Nat)(hN:X.N.Nodup)(hg:Gl X "dict")(hm:X.mg "dict"=none)(he:PF X e ga)(h2:yc X cT g2)(hi:X.N[i]?=some y:=by rfl)(hx:Loc X.env.scope y:=by first|exact Or.inl rfl|exact Or.inr rfl)(hse:starEach [e] X.env=(false,eval e X.env)::starEach [] X.env:=by rfl)(hw:swappedStores [.Name y py] (.Call (.Name "dict" p) [e] [] pos) X.env=pure none:=by rfl)(hf:X.fn y=true\/X.env.scope.names.lookup y=some .local:=by first|exact .inl rfl|exact .inr rfl)(hs:swapsWithSole [.Name y py] (.Call (.Name "dict" p) [e] [] pos) pos'.line X.env=pure false:=by rfl):yc X (.Assign [.Name y py] (.Call (.Name "dict" p) [e] [] pos) pos'::cT) (Aj i ga g2):=λG₀ H₀ pins s σ H D I ⟨G,ρ,sr,h⟩=>by
 refine iW (kU (nq sS hg hm PyProof.Rows.Boot.«dict» (cW he jj hse) (by decide) (by decide) hse rfl) (jn hN hi hx hf) hs hw rfl) (h2 G₀ H₀) pins s σ H D I ⟨G,ρ,sr.e,?_⟩;have h:∀q:Addr×α,jM X G₀ H₀ D ((fw (ga ρ)).out ρ λd=>match d with
  |.dct (k::ks) ds=>g2 q.2 (ρ.set i (some (.obj true DC q.1 ((k::ks).zip (ds.map Fd.val)))))
  |_=>.no):=h;cases q1:ga ρ with
 |ok d=>
  rw[q1]at h;intro v G1 H1 u1 r1;cases r1 with
  | @dct c o xs ks ds hc hk hr=>
   have sr1:=sr.ups u1;cases ks with
   |nil=>exact(h (0,default)).elim
   |cons k ks=>refine⟨c,o,xs,rfl,u1.sub _ _ hc,hk.inH u1.sub,hk.twos,λz=>by have:=hk.length;rw[z]at this;simp at this,λq o' hq=>?_⟩;obtain⟨u,ob⟩:=AL u1.sub hq hk hr;exact⟨G1,_,sr1.setObj u ob i,λq2=>h (q,q2)⟩
  |_=>exact(h (0,default)).elim
 |_=>rw[q1]at h;exact(h (0,default)).elim
noncomputable def qZ(i:Nat):Ev->O:=λρ=>match ρ[i]? with
 |some (some (.obj true C _ fs))=>if C=DC then (match fvs fs with
  |some kv=>.rt (.dct (kv.map (·.1)) (kv.map (·.2)))
  |none=>.no)else .no
 |_=>.no
def DR(i:Nat)(hi:X.N[i]?=some x:=by rfl)(hv:Vis X.env.scope x:=by first|exact Or.inl rfl|exact Or.inr (Or.inl rfl)|exact Or.inr (Or.inr rfl))(hd:(x==("__debug__":Str))=false:=by decide)(hcd:(x==("__classdict__":Str))=false:=by decide):PSF X (.Return (some (.Name x p)) pos) (qZ i):=λG₀ H₀ pins s σ H D I ⟨G,ρ,sr,h⟩=>by
 unfold qZ at h;split at h
 ·rename_i C q fs e1;split at h
  ·rename_i z;subst z;obtain⟨ow,_,o2⟩:=sr.ob;obtain⟨hσ,ob⟩:=o2 i true DC q fs e1;obtain⟨o,xs,ks,ds,g1,g2,g3,g4,g5,g6,g7⟩:=ob.dco;rw[g7,ue]at h;have l1:=g5.length;have l2:=g6.length;rw[List.length_map]at l2;have e2:(ks.zip ds).map (·.1)=ks:=List.map_fst_zip (by omega);have e3:(ks.zip ds).map (·.2)=ds:=List.map_snd_zip (by omega);have h:jM X G₀ H₀ D (.rt (.dct ((ks.zip ds).map (·.1)) ((ks.zip ds).map (·.2)))):=h;rw[e2,e3]at h;have into:Same G (upd G q (DctO q o xs)):=.into g2;refine Ax (dA hi hv hd hcd) pins s σ H D I ⟨_,hσ,h (.ref q) (upd G q (DctO q o xs)) H ⟨λa u y=>?_,sr.up.gg.trans into,sr.up.hh,λa u y=>?_⟩ (.dct aF (g5.mono into) (g6.mono into))⟩
   ·by_cases ea:a=q;·subst ea;rw[aF]at y;rw[<- y];exact g1
    ·rw[aw ea]at y;exact sr.e.sub a u y
   ·by_cases ea:a=q;·subst ea;exact .inr (g3 rfl)
    ·rw[aw ea]at y;exact sr.up.fr a u y
  ·exact h.elim
 ·exact h.elim
noncomputable def d1F:D->D->Option D:=λk v=>(tf k).map λn=>.dct [n] [v]
noncomputable def gD1(gk gv:Ev->R D):Ev->R D:=λρ=>gk ρ>>=λk=>gv ρ>>=λv=>ofO (d1F k v)
def L8{k v:Expr}{gk gv:Ev->R D}(hu:X.A.units+64<cLine)(hk:PF X k gk)(hv:PF X v gv):PF X (.Dict [some k] [v] pos) (gD1 gk gv):=λpins s σ H Q I ⟨G,ρ,st,h⟩=>by
 refine E4 (by omega) hk hv pins s σ H Q I λq o hq=>?_;have u0:Up G H G (upd H q (DctO q o [])):=⟨λa u y=>by rw[aw (aD y (st.sub.free hq))];exact st.sub a u y,.refl _,.into hq,λ_ _ y=>.inl y⟩
 have h:(gk ρ>>=λk=>gv ρ>>=λv=>ofO (d1F k v)).post (Fin G H (Rep X.K) Q) (Exx X σ G H):=h;have st0:=st.up u0;refine⟨G,ρ,st0,?_⟩;cases q1:gk ρ with
 |ok kd=>
  rw[q1]at h;intro kv G1 H1 u1 r1;refine⟨G1,ρ,st0.up u1,?_⟩;cases q2:gv ρ with
  |ok vd=>
   rw[q2]at h;intro vv G2 H2 u2 r2;obtain⟨w,e1,h⟩:=ofO.ok (show(ofO (d1F kd vd)).post (Fin G H (Rep X.K) Q) (Exx X σ G H) from h);unfold d1F at e1;cases e2:tf kd with
   |none=>rw[e2]at e1;cases e1
   |some n=>
    rw[e2]at e1;cases e1;obtain⟨c,a,b,rfl,rfl,hc⟩:=lw e2 r1;have u:=u1.trans u2;have gq:G2 q=none:=by
     cases z:G2 q with
     |none=>rfl
     |some o'=>
      rcases u.fr q o' z with y|y;·rw[st.sub.free hq]at y;cases y
      ·rw[aF]at y;cases y
    refine⟨u.hh _ _ aF,c,[a,b],rfl,(hc.mono u2.gg).mono u2.sub,λo'=>h (.ref q) (upd G2 q (DctO q o' [([a,b],c,vv)])) _ ⟨u2.sub.both,u.gg.trans (.into gq),λx o'' y=>?_,λx o'' y=>?_⟩ (.dct aF (.cons ((hc.mono u2.gg).mono (.into gq)) .nil) (.cons (r2.mono (.into gq)) .nil))⟩;·have nx:=aD y hq;rw[aw nx];exact u.hh x o'' (by rw[aw nx];exact y)
    ·by_cases ex:x=q;·subst ex;exact .inr hq
     ·rw[aw ex]at y;rcases u.fr x o'' y with z|z;·exact .inl z
      ·rw[aw ex]at z;exact .inr z
  |ex C=>rw[q2]at h;exact Exx.up (u0.trans u1) h
  |no=>rw[q2]at h;exact h.elim
 |ex C=>rw[q1]at h;exact Exx.up u0 h
 |no=>rw[q1]at h;exact h.elim
noncomputable def Dx(n:Nat):D:=.tup [.bl (n % 2==1),.bl (n / 2==1)]
noncomputable def zy:D->R (List D)
 |.dct ks ds=>.ok ((ks.zip ds).map λz=>.tup [Dx z.1,z.2])
 |_=>.no
def rF:∀a b:Bool,Dx (code a b)=.tup [.bl a,.bl b]:=by intro a b;cases a <;> cases b <;> rfl
theorem KeysAt.item{K:PySem.W.Frag}:∀{xs:DX}{ks:List Nat}{ds:List D}{i:Nat}{y:List Bool×Addr×V},KeysAt K G xs ks->Reps K G (xs.map (·.2.2)) ds->xs[i]?=some y->∃n d,(ks.zip ds)[i]?=some (n,d)/\Rep K G (.ref y.2.1) (Dx n)/\Rep K G y.2.2 d
 |_,_,_,_,_,.nil,_,e=>by simp at e
 |_,_,_,0,_,.cons (a:=a) (b:=b) h t,.cons r1 r2,e=>by simp at e;subst e;exact⟨_,_,rfl,by rw[rF];exact .tup h (.cons (.bl a) (.cons (.bl b) .nil)),r1⟩
 |_,_,_,i+1,_,.cons h t,.cons r1 r2,e=>by obtain⟨n,d,h1,h2⟩:=KeysAt.item t r2 (by simpa using e);exact⟨n,d,by simpa using h1,h2⟩
def ItOk.dct{K:PySem.W.Frag}{o:Obj}{xs:DX}(h:G a=some (DctO a o xs))(k:KeysAt K G xs ks)(r:Reps K G (xs.map (·.2.2)) ds):ItOk K G (Itd a o xs) ((ks.zip ds).map λz=>.tup [Dx z.1,z.2]):=by
 intro i G1 H1 s1 s2;have l1:=k.length;have l2:=r.length;rw[List.length_map]at l2;have lz:((ks.zip ds).map λz=>D.tup [Dx z.1,z.2]).length=xs.length:=by rw[List.length_map,List.length_zip];omega
 have hH:=s2 _ _ (s1 _ _ h);refine⟨λd e=>?_,λhl=>⟨hH,by rw[lz]at hl;exact hl⟩⟩;have hi:i<xs.length:=by rw[<- lz];exact(List.getElem?_eq_some_iff.1 e).1
 refine⟨⟨hH,hi⟩,λx H' ⟨p,y,ex,hp,hy,eH⟩=>?_⟩;subst ex eH;obtain⟨n,d',e1,e2,e3⟩:=k.item r hy;rw[List.getElem?_map,e1]at e;cases e;have gp:=s2.free hp;exact⟨upd G1 p (.tup [.ref y.2.1,y.2.2]),.new s2 hp,.tup (.of aF) (.cons ((e2.mono s1).mono (.into gp)) (.cons ((e3.mono s1).mono (.into gp)) .nil))⟩
def yO{tp ap:Pos}(he:PF X e ga)(hbase:attributeBase e "items" X.env (eval e X.env)=eval e X.env:=by rfl)(hline:(ap.endLine==pos.line)=true:=by rfl):
  PIF X (.Tuple elts kt tp) (.Call (.Attribute e "items" ap) [] [] pos) (λρ=>ga ρ>>=zy):=λpins s σ H Rr I ⟨G,ρ,st,h⟩=>by
 refine BT he hbase hline pins s σ H Rr I (tG.intro st h λd v G1 H1 u1 st1 r1 h1=>?_);cases r1 with
 |dct hh k r=>exact⟨_,_,_,rfl,st1.sub _ _ hh,h1 _ G1 H1 (.refl st1.sub) (.dct hh k r)⟩
 |_=>exact h1.elim
end
noncomputable def uW(key:D->R D):D->Int->List D->R D
 |b,_,[]=>.ok b
 |b,kb,x::xs=>match key x with
  |.ok (.int kx)=>if kx<kb then uW key x kx xs else uW key b kb xs
  |_=>.no
noncomputable def pi(key:D->R D):List D->R D
 |x::xs=>(match key x with
  |.ok (.int kx)=>uW key x kx xs
  |_=>.no)
 | []=>.no
section
variable{g:List D->R D}{n:Int}
def wH(F:FnF X.prog X.w X.K X.mg X.base k f fd ps g)(hr:Room k X.A.in1)(hh:X.A.handled=none)(hb:Binds X.K fd ps [])(hl:ps.length=1)(I:Inv X pins σ H s)(ru:RelV v u)(sub:Same G H)(rd:Rep X.K G v d)(e:g [d]=.ok (.int n)):
  wpAny (model X.prog X.w) X.A.in1 (call (.ref f) [u]) (λy s4=>∃H4 t,y=.int n t/\Inv X pins σ H4 s4/\Same H H4/\Un (frs X.stack) [] H H4 s.heap s4.heap) E s:=by
 have J:Inv { X with A:=X.A.in1 } pins σ H s:=I.cx (λp q=>q) rfl (λ_=>hh);have hbb:=hb s [u] J.kIn (by rw[hl];rfl);refine wpAny_call (codeAny_mono (F.run X.A.in1 X.stack s H ⟨[u],[]⟩ [u] [v] (λw H4=>w=.int n/\Same H H4) (λ_ _ _=>False) hr J.env0 hbb (.cons ru .nil) ⟨by rw[hl];rfl,G,[d],sub,.cons rd .nil,?_⟩) λr s' hq=>?_);·rw[e];exact λw G' H' up rw'=>⟨rw'.int_inv,up.hh⟩
 ·cases r with
  |error z=>obtain⟨_,_,_,_,_,z⟩:=hq;exact z.elim
  |ok fl=>
   cases fl with
   |ret y=>obtain⟨w,H4,os4,bare4,un4,hok4,rk4,rfl,sm⟩:=hq;obtain⟨t,rfl⟩:=rk4;exact⟨H4,t,rfl,I.call' os4 un4 hok4 bare4 (λb z=>absurd z (by simp)),sm,un4⟩
   |_=>exact False.elim hq
end
section
variable{H0:Hp}{Ii S l:Addr}{g:List D->R D}{dd:D}{Rr:Result->Shared->Prop}
def Kq{prog:Program}{w:World}{A:Around}{i j:Int}{t u:Tok}{Q:Value->Shared->Prop}(h:Q (.bool (decide (i<j))) s):wpAny (model prog w) A (richCompare .Lt (.int i t) (.int j u)) Q E s:=
 richCompare_gives (typeIs_int s _ t) (typeIs_int s _ u) PySem.F.slot_int_lt PySem.F.entry_int_lt (PySem.F.args_int_lt_2 _ _) (gives_int_lt _ _ t u) (λx=>nomatch x) h
def zJ(F:FnF X.prog X.w X.K X.mg X.base k f fd ps g)(hr:Room k X.A.in1)(hh:X.A.handled=none)(hb:Binds X.K fd ps [])(hl1:ps.length=1)(hG:Same G H0)(hq:SqL X.K G l vs)(hlI:l≠Ii)(hSI:S≠Ii)(fpI:∀H',H' Ii=none->oS X pins H' Ii)(fpS:∀H',H' S=none->oS X pins H' S)(nfI:Ii∉frs X.stack)(nfS:S∉frs X.stack)(hR:∀v u H' s',Inv X pins σ H' s'->Same H0 H'->RelV v u->Rep X.K G v dd->Rr (.ok (.ret u)) s'):
  ∀(cT:List D)(vrest:List V)(p:Nat)(b:D)(vb:V)(kb:Int)(s:Shared)(H:Hp)(ub:Value)(t:Tok)(c:Nat),p<=vs.length->vs.drop p=vrest->Reps X.K G vrest cT->uW (λd=>g [d]) b kb cT=.ok dd->
   Inv X pins σ H s->Same H0 H->s.heap.get? S=some (seqObj "list" #[ub,.int kb t] c)->s.heap.IsListIter Ii l p->H Ii=none->H S=none->RelV vb ub->Rep X.K G vb b->
   codeAny (model X.prog X.w) X.A (.builtin "min.loop" ⟨[.ref Ii,.ref f,.ref S],[]⟩) Rr s:=by
 intro cT;induction cT with
 |nil=>
  intro vrest p b vb kb s H ub t c hpl hd hrs hm I hs gS hit nI nS rb rpb;cases hm;cases hrs;obtain⟨its,rvs,pl,hz⟩:=I.list ((hq.mono hG).mono hs);have W:=Walks.list (prog:=X.prog) (w:=X.w) (A:=X.A.in1) hh Ii l hlI its.toArray;obtain rfl:p=its.toArray.size:=by have h1:=rvs.length;have h2:=List.drop_eq_nil_iff.1 hd;simp;omega
  refine codeAny_builtin PySem.F.entry_min_loop ?_;refine wpAny_bind (wpAny_seqItems gS rfl (wpAny_bind (wpAny_tryCatch (W.done _ _ _ ⟨hit,pl.isList⟩ λh6 tk6 hk6=>?_))));have I6:Inv X pins σ H { s with heap:=h6,toks:=tk6 }:=Inv.turnedL I (λb ob hb e=>hk6 b ob hb e) (λb hb=>by rw[List.mem_singleton.1 hb];exact fpI H nI);have s7:=Heap.SameBut.update h6 S (Obj.mapSeq λ_=>(#[]:Array Value));refine wpAny_bind (wpAny_updateSeq (hk6 S _ (by simpa using hSI) gS) rfl (wpAny_bind (wpAny_letGo (wpAny_pure ?_))));exact hR vb ub H _ (Inv.turnedL (ch:=[S]) I6 (λb ob hb e=>(s7.2 b (by simpa using hb)).trans e) (λb hb=>by rw[List.mem_singleton.1 hb];exact fpS H nS)) hs rb rpb
 |cons d cT ih=>
  intro vrest p b vb kb s H ub t c hpl hd hrs hm I hs gS hit nI nS rb rpb;cases hrs with
  |cons rd rrest=>
  rename_i v vrest;obtain⟨its,rvs,pl,hz⟩:=I.list ((hq.mono hG).mono hs);have W:=Walks.list (prog:=X.prog) (w:=X.w) (A:=X.A.in1) hh Ii l hlI its.toArray;have hvp:vs[p]?=some v:=by simpa[List.head?_drop]using congrArg List.head? hd
  have hdr:vs.drop (p+1)=vrest:=by simpa[List.tail_drop]using congrArg List.tail hd
  have hpl':=(List.getElem?_eq_some_iff.1 hvp).1;obtain⟨u,hu,ru⟩:=rvs.get hvp;obtain⟨kx,eg⟩:∃kx,g [d]=.ok (.int kx):=by
   unfold uW at hm;split at hm;·rename_i kx e;exact⟨kx,e⟩
   ·cases hm
  simp only[uW,eg]at hm;refine codeAny_builtin PySem.F.entry_min_loop ?_;refine wpAny_bind (wpAny_seqItems gS rfl (wpAny_bind (wpAny_tryCatch (W.item p _ _ _ (by simpa using (List.getElem?_eq_some_iff.1 hu).1) ⟨hit,pl.isList⟩ λv' h3 tk3 hP hst3 hk3=>?_))));obtain rfl:v'=u:=by
   have:its[p]?=some v':=by simpa using hP
   rw[hu]at this;cases this;rfl
  obtain⟨oI,hoI,hoc,hod⟩:=id hst3.1;have I3:Inv X pins σ H { s with heap:=h3,toks:=tk3 }:=Inv.turnedL I (λb ob hb e=>hk3 b ob hb e) (λb hb=>by rw[List.mem_singleton.1 hb];exact fpI H nI);have gS3:=hk3 _ _ (by simpa using hSI) gS;refine wpAny_bind (wpAny_tryCatch (wpAny_holding (wpAny_mono (wH (E:=λ_ _=>False) F hr hh hb hl1 I3 ru (hG.trans hs) rd eg) (λy s4 ⟨H4,tx,ey,I4,sm4,un4⟩=>?_) λ_ _ z=>z.elim)));subst ey;have gS4:=un4.keep _ _ gS3 nS nfS (by simp);have gI4:=un4.keep _ _ hoI nI nfI (by simp);have nI4:=un4.free _ _ hoI nI (by simp);have nS4:=un4.free _ _ gS3 nS (by simp);refine wpAny_bind (wpAny_tryCatch (wpAny_holding (wpAny_bind (Kq (wpAny_bind (wpAny_holding (wpAny_truthy_bool (wpAny_bind (wpAny_letGo (wpAny_pure ?_))))))))));by_cases hlt:kx<kb
  ·rw[if_pos hlt]at hm;rw[decide_eq_true hlt];have s1:=Heap.SameBut.update s4.heap S (Obj.mapSeq λ_=>#[v',.int kx tx]);obtain⟨c2,hc2⟩:∃c2,(s4.heap.update S (Obj.mapSeq λ_=>#[v',.int kx tx])).get? S=some (seqObj "list" #[v',.int kx tx] c2):=⟨_,get?_update_seq gS4 λ_=>#[v',.int kx tx]⟩
   refine wpAny_bind (wpAny_updateSeq gS4 rfl (wpAny_bind (wpAny_letGo ?_)));exact wpAny_pure ⟨plainId_quiet PySem.F.plain_min_loop _,ih vrest (p+1) d v kx _ H4 v' tx c2 hpl' hdr rrest hm (Inv.turnedL (ch:=[S]) I4 (λb ob hb e=>(s1.2 b (by simpa using hb)).trans e) (λb hb=>by rw[List.mem_singleton.1 hb];exact fpS H4 nS4)) (hs.trans sm4) hc2 ⟨oI,(s1.2 Ii hSI.symm).trans gI4,hoc,hod⟩ nI4 nS4 ru rd⟩
  ·rw[if_neg hlt]at hm;rw[decide_eq_false hlt];refine wpAny_bind (wpAny_letGo ?_);exact wpAny_pure ⟨plainId_quiet PySem.F.plain_min_loop _,ih vrest (p+1) b vb kb s4 H4 ub t c hpl' hdr rrest hm I4 (hs.trans sm4) gS4 ⟨oI,gI4,hoc,hod⟩ nI4 nS4 rb rpb⟩
def yF{v0:V}{vr:List V}{d0:D}{kb:Int}{Q:VK}(F:FnF X.prog X.w X.K X.mg X.base k f fd ps g)(hr:Room k X.A.in1)(hh:X.A.handled=none)(hb:Binds X.K fd ps [])(hl1:ps.length=1)(I:Inv X pins σ H s)(hG:Same G H)(hq:SqL X.K G l (v0::vr))(r0:Rep X.K G v0 d0)(rr:Reps X.K G vr ds)(eg:g [d0]=.ok (.int kb))(em:uW (λd=>g [d]) d0 kb ds=.ok dd)(hQ:∀v H',Same H H'->Rep X.K G v dd->Q v H'):
  wpAny (model X.prog X.w) X.A (call (.builtin "min") [.ref l] [(Str.ofString "key",.ref f)]) (EP X pins σ Q) X.xe s:=by
 obtain⟨its,rvs,pl,hz⟩:=I.list (hq.mono hG);have hl:=pl.isList;obtain⟨ol,hol,_⟩:=id hl;have ll:=Heap.lt_size hol;refine kmk_tree PySem.F.kind_min PySem.F.plain_min PySem.F.entry_min (kmk_min_key _ _) ?_;refine wpAny_bind (wpAny_of_eq rfl (wpAny_bind (wpAny_pure (wpAny_bind (wpAny_pyIter_list hl (wpAny_bind (wpAny_newList ?_ (Nat.zero_le _))))))));generalize hI:s.heap.objs.size=Ii at *;have hS:(s.heap.push { cls:=.type "list_iterator",data:=.fields #[.ref l,.int 0 0] }).objs.size=Ii+1:=by rw[<- hI];exact size_push' ..
 rw[hS];have hlI:=Nat.ne_of_lt ll;have hSI:Ii+1≠Ii:=Nat.ne_of_gt (Nat.lt_succ_self _);refine wpAny_pure ⟨plainId_quiet PySem.F.plain_min_loop _,?_⟩;generalize hh2:(s.heap.push { cls:=.type "list_iterator",data:=.fields #[.ref l,.int 0 0] }).push (seqObj "list" #[] 0)=h2;have k2:∀b ob,s.heap.get? b=some ob->h2.get? b=some ob:=λb ob e=>by rw[<- hh2];exact Heap.get?_push_of_some _ (Heap.get?_push_of_some _ e)
 have gI:h2.get? Ii=some { cls:=.type "list_iterator",data:=.fields #[.ref l,.int 0 0] }:=by rw[<- hh2,<- hI];exact Heap.get?_push_of_some _ (Heap.get?_push_size _ rfl)
 have gS:h2.get? (Ii+1)=some (seqObj "list" #[] 0):=by rw[<- hh2,<- hS];exact Heap.get?_push_size _ rfl
 have fpI:∀H',H' Ii=none->oS X pins H' Ii:=λH' n=>I.fpOk (by rw[hI];exact Nat.le_refl _) n;have fpS:∀H',H' (Ii+1)=none->oS X pins H' (Ii+1):=λH' n=>I.fpOk (by rw[hI];exact Nat.le_succ _) n;have nI:=I.hok.fresh (by rw[hI];exact Nat.le_refl _);have nS:=I.hok.fresh (by rw[hI];exact Nat.le_succ _);have noF:∀b,s.heap.objs.size<=b->b∉frs X.stack:=λb hb z=>by
  rcases List.mem_cons.1 (I.stkSub b z)with rfl|z;·exact absurd I.lt (Nat.not_lt.2 hb)
  ·exact I.nofs hb z
 have nfI:=noF _ (by rw[hI];exact Nat.le_refl _);have nfS:=noF _ (by rw[hI];exact Nat.le_succ _);have W:=Walks.list (prog:=X.prog) (w:=X.w) (A:=X.A.in1) hh Ii l hlI its.toArray;obtain⟨u0,hu0,ru⟩:=rvs.get (i:=0) rfl;refine codeAny_builtin PySem.F.entry_min_loop ?_;refine wpAny_bind (wpAny_seqItems gS rfl (wpAny_bind (wpAny_tryCatch (W.item 0 _ _ _ (by simpa using (List.getElem?_eq_some_iff.1 hu0).1) ⟨⟨_,gI,rfl,rfl⟩,hl.at λo e=>k2 _ _ e⟩ λv h3 tk3 hP hst3 hk3=>?_))));obtain rfl:v=u0:=by
  have:its[0]?=some v:=by simpa using hP
  rw[hu0]at this;cases this;rfl
 obtain⟨oI,hoI,hoc,hod⟩:=id hst3.1;have I3:Inv X pins σ H { s with heap:=h3,toks:=tk3 }:=Inv.turnedL (s:={ s with heap:=h2,toks:=s.toks }) (I.kept k2) (λb ob hb e=>hk3 b ob hb e) (λb hb=>by rw[List.mem_singleton.1 hb];exact fpI H nI);have gS3:=hk3 _ _ (by simp) gS;refine wpAny_bind (wpAny_tryCatch (wpAny_holding (wpAny_mono (wH (E:=λ_ _=>False) F hr hh hb hl1 I3 ru hG r0 eg) (λy s4 ⟨H4,tx,ey,I4,sm4,un4⟩=>?_) λ_ _ z=>z.elim)));subst ey;have gS4:=un4.keep _ _ gS3 nS nfS (by simp);have gI4:=un4.keep _ _ hoI nI nfI (by simp);have nI4:=un4.free _ _ hoI nI (by simp);have nS4:=un4.free _ _ gS3 nS (by simp);have s5:=Heap.SameBut.update s4.heap (Ii+1) (Obj.mapSeq λ_=>#[v,.int kb tx]);obtain⟨c5,hc5⟩:∃c5,(s4.heap.update (Ii+1) (Obj.mapSeq λ_=>#[v,.int kb tx])).get? (Ii+1)=some (seqObj "list" #[v,.int kb tx] c5):=⟨_,get?_update_seq gS4 λ_=>#[v,.int kb tx]⟩
 refine wpAny_bind (wpAny_updateSeq gS4 rfl ?_);refine wpAny_pure ⟨plainId_quiet PySem.F.plain_min_loop _,?_⟩;exact zJ F hr hh hb hl1 hG hq hlI hSI fpI fpS nfI nfS (λv u H' s' I' sm' rv' rp'=>⟨v,H',I',rv',hQ v H' sm' rp'⟩) ds vr 1 d0 v0 kb _ H4 v tx c5 (by simp) rfl rr em (Inv.turnedL (ch:=[Ii+1]) I4 (λb ob hb e=>(s5.2 b (by simpa using hb)).trans e) (λb hb=>by rw[List.mem_singleton.1 hb];exact fpS H4 nS4)) sm4 hc5 ⟨oI,(s5.2 Ii (Ne.symm hSI)).trans gI4,hoc,hod⟩ nI4 nS4 ru r0
end
theorem tH{key:D->R D}:∀{xs:List D}{b:D}{kb:Int},(∃d,uW key b kb xs=.ok d)\/uW key b kb xs=.no
 | [],b,kb=>.inl ⟨_,rfl⟩
 |x::xs,b,kb=>by
  unfold uW;split
  ·split;·exact tH
   ·exact tH
  ·exact .inr rfl
def yz{key:D->R D}{x:D}{xs:List D}:(∃kb d,key x=.ok (.int kb)/\uW key x kb xs=.ok d/\pi key (x::xs)=.ok d)\/pi key (x::xs)=.no:=by
 have e0:pi key (x::xs)=(match key x with
  |.ok (.int kx)=>uW key x kx xs
  |_=>.no):=rfl;rw[e0];cases e:key x with
 |ok d=>
  cases d with
  |int kb=>
   rcases tH with⟨d,h⟩|h;·exact .inl ⟨kb,d,rfl,h,h⟩
   ·exact .inr h
  |_=>exact .inr rfl
 |_=>exact .inr rfl
noncomputable def uu(ga:Ev->R D)(g:List D->R D):Ev->R D:=λρ=>ga ρ>>=λd=>match d with
 |.lst _ xs=>pi (λd=>g [d]) xs
 |_=>.no
def DL{a:Expr}{ga:Ev->R D}{fn:Str}{g:List D->R D}{p fp kp:Pos}(hc:X.calm=true)(hg:Gl X "min")(hm:X.mg "min"=none)(c:Callee X.prog X.w X.K X.mg X.base fn k 1 g)(hr:Room k X.A.in1)(ha:PF X a ga)(hgf:Gl X fn:=by rfl)(hdb:(fn==("__debug__":Str))=false:=by decide)(hs:starEach [a] X.env=(false,eval a X.env)::starEach [] X.env:=by rfl)(hall:(backToKw pos (keywordEach [⟨some "key",.Name fn fp,kp⟩] X.env)).all (·.1.isSome)=true:=by rfl)(hks:(backToKw pos (keywordEach [⟨some "key",.Name fn fp,kp⟩] X.env)).filterMap (·.1)=[("key":Str)]:=by rfl)(hpl:((backTo pos (starEach [a] X.env)).any (·.1) || (backToKw pos (keywordEach [⟨some "key",.Name fn fp,kp⟩] X.env)).any (·.1.isNone))=false:=by rfl):
  PF X (.Call (.Name "min" p) [a] [⟨some "key",.Name fn fp,kp⟩] pos) (uu ga g):=λpins s σ H Q I ⟨G,ρ,st,h⟩=>by
 obtain⟨f,fd,ps,F,hmf,hkp,hb,hl1⟩:=c.ex;have ta:CY (tF X ga) L4 σ H (λvs H1=>∃v,vs=[v]/\∃G1 d,Up G H G1 H1/\Rep X.K G1 v d/\(match d with|.lst _ xs=>pi (λd=>g [d]) xs|_=>.no:R D).post (Fin G1 H1 (Rep X.K) Q) (Exx X σ G1 H1)):=
  tG.intro st h λd v G1 H1 u1 st1 r1 h1=>⟨v,rfl,G1,d,u1,r1,h1⟩
 refine wpAny_Call_Name_kw (mK I hg hm PyProof.Rows.Boot.«min» ?_ (by decide) (by decide));refine PySem.W.callWith_of (P:=λ_=>True) hpl (λh _=>by first|exact⟨_,.inl rfl,PySem.W.Looks.of_pure rfl⟩|exact⟨_,.inr (.inl rfl),PySem.W.Looks.of_pure rfl⟩|exact⟨_,.inr (.inr rfl),PySem.W.Looks.of_pure rfl⟩) (evalArgs_kw2 hall (thn ((cW ha jj hs) pos pins s σ H _ I ta) λus s1 ⟨vs,H1,I1,r1,q1⟩=>?_) hs);obtain⟨v,hv,G1,d,u1,rd,h1⟩:∃v,vs=[v]/\∃G1 d,Up G H G1 H1/\Rep X.K G1 v d/\(match d with|.lst _ xs=>pi (λd=>g [d]) xs|_=>.no:R D).post (Fin G1 H1 (Rep X.K) Q) (Exx X σ G1 H1):=q1;subst hv;obtain⟨u,rfl,rv⟩:=r1.one;refine wpAny_evalAll_cons (wpAny_bind (thn (pI (v:=.ref f) hgf hmf rfl hdb pins s1 σ H1 (λw H2=>w=.ref f/\H2=H1) I1 ⟨rfl,rfl⟩) λfv s2 ⟨w,H2,I2,rw2,ew,eh⟩=>wpAny_bind (wpAny_standAt (wpAny_pure (wpAny_evalAll_nil ⟨trivial,?_⟩)))));subst ew eh;cases rw2;have fin:∀{l:Addr}{v0:V}{vr:List V}{x0:D}{ds:List D},u=.ref l->SqL X.K G1 l (v0::vr)->Rep X.K G1 v0 x0->Reps X.K G1 vr ds->(pi (λd=>g [d]) (x0::ds)).post (Fin G1 H2 (Rep X.K) Q) (Exx X σ G1 H2)->
   wpAny (model X.prog X.w) X.A (call (.builtin "min") [u] [(Str.ofString "key",.ref f)]) (EP X pins σ Q) X.xe s2:=by
  intro l v0 vr x0 ds eu hq r0 rr h0;subst eu;rcases yz with⟨kb,dd,eg,em,e1⟩|e1
  ·rw[e1]at h0;exact yF F hr (I2.ok.hd hc) hb hl1 I2 u1.sub hq r0 rr eg em λv H' sm rp=>h0 v G1 H' ⟨u1.sub.trans sm,.refl _,sm,λa o h=>.inl h⟩ rp
  ·rw[e1]at h0;exact h0.elim
 cases rd with
 |lst hq t=>
  cases rv;cases t with
  |nil=>exact h1.elim
  |cons r0 t=>exact fin rfl (.of hq) r0 t h1
 |fls hq t=>
  cases rv;cases t with
  |nil=>exact h1.elim
  |cons r0 t=>exact fin rfl hq r0 t h1
 |_=>exact h1.elim
noncomputable def lB(K:PySem.W.Frag)(c:Addr)(d:D):Prop:=∀G,Rep K G (.ref c) d
def aV{c:Addr}(hg:Gl X x)(hm:X.mg x=some (.ref c))(hk:lB X.K c d)(hd:(x==("__debug__":Str))=false:=by decide):PF X (.Name x pos) (λ_=>.ok d):=λpins s σ H Q I ⟨G,ρ,st,q⟩=>pI (v:=.ref c) hg hm rfl hd pins s σ H Q I (q _ G H (.refl st.sub) (hk G))
def BP{K:PySem.W.Frag}{c:Addr}{o:Obj}{its:Array Value}{n:Nat}(h1:K.lookup c=some o)(h2:o.cls=.type "tuple")(h3:o.data=.seq its n)(h4:its.size<=sizeLine)(h5:Vals vs its.toList)(h6:∀G,Reps K G vs ds):lB K c (.tup ds):=λG=>.tup (.inr ⟨o,its,n,h1,h2,h3,h4,h5⟩) (h6 G)
def HD{a b:Expr}{ga:Ev->R D}(h:PF X (.Subscript a b pos) ga):PB X (.Subscript a b pos) (ax lG ga):=AX h
section
variable{cT:List Stmt}{α:Type}{g2:α->Ev->O}{e e':Expr}{gl':Ev->R (List D)}{cn:Str}{n:Nat}
noncomputable def uV{α:Type}(C:Addr)(i j m:Nat)(F:MF)(n:Nat)(gl gl' gl3:Ev->R (List D))(g2:α->Ev->O):Addr×Addr×Addr×α->Ev->O:=λq ρ=>(fw (gl ρ>>=nT F n)).out ρ λfs=>(fw (gl' ρ>>=nT F n)).out ρ λfs'=>(fw (gl3 ρ>>=nT F n)).out ρ λf3=>g2 q.2.2.2 (((ρ.set i (some (.obj true C q.1 fs))).set j (some (.obj true C q.2.1 fs'))).set m (some (.obj true C q.2.2.1 f3)))
def B3[Inhabited α](i j m:Nat){z u:Str}{pz pu pt pt2 q1 q2 q3 q4 q5 q6:Pos}{k2:Nat}{e3:Expr}{es' es3:List Expr}{gl3:Ev->R (List D)}(c:MkC X.prog X.w X.K X.mg X.base C cn k n F)(hr:Room (k+1) X.A)(hc:X.calm=true)(hN:X.N.Nodup)(ha:PFA X (e::es) gl)(hb:PFA X (e'::es') gl')(h3:PFA X (e3::es3) gl3)(h2:yc X cT g2)(hij:i≠j:=by decide)(him:i≠m:=by decide)(hjm:j≠m:=by decide)(hi:X.N[i]?=some y:=by rfl)(hj:X.N[j]?=some z:=by rfl)(hm:X.N[m]?=some u:=by rfl)(hx:X.env.scope.names.lookup y=some .local:=by rfl)(hy:X.env.scope.names.lookup z=some .local:=by rfl)(hu:X.env.scope.names.lookup u=some .local:=by rfl)(hg:Gl X cn:=by rfl)(hdb:(cn==("__debug__":Str))=false:=by decide)(he:starEach (e::es) X.env=(false,eval e X.env)::starEach es X.env:=by rfl)(hpl:(backTo q2 (starEach es X.env)).any (·.1)=false:=by rfl)(he':starEach (e'::es') X.env=(false,eval e' X.env)::starEach es' X.env:=by rfl)(hpl':(backTo q4 (starEach es' X.env)).any (·.1)=false:=by rfl)(he3:starEach (e3::es3) X.env=(false,eval e3 X.env)::starEach es3 X.env:=by rfl)(hpl3:(backTo q6 (starEach es3 X.env)).any (·.1)=false:=by rfl)(hse:starEach [.Call (.Name cn q1) (e::es) [] q2,.Call (.Name cn q3) (e'::es') [] q4,.Call (.Name cn q5) (e3::es3) [] q6] X.env=(false,eval (.Call (.Name cn q1) (e::es) [] q2) X.env)::starEach [.Call (.Name cn q3) (e'::es') [] q4,.Call (.Name cn q5) (e3::es3) [] q6] X.env:=by rfl)(hse2:starEach [.Call (.Name cn q3) (e'::es') [] q4,.Call (.Name cn q5) (e3::es3) [] q6] X.env=(false,eval (.Call (.Name cn q3) (e'::es') [] q4) X.env)::starEach [.Call (.Name cn q5) (e3::es3) [] q6] X.env:=by rfl)(hse3:starEach [.Call (.Name cn q5) (e3::es3) [] q6] X.env=(false,eval (.Call (.Name cn q5) (e3::es3) [] q6) X.env)::starEach [] X.env:=by rfl)(hw:swappedStores [.Tuple [.Name y py,.Name z pz,.Name u pu] kt pt] (.Tuple [.Call (.Name cn q1) (e::es) [] q2,.Call (.Name cn q3) (e'::es') [] q4,.Call (.Name cn q5) (e3::es3) [] q6] k2 pt2) X.env=pure (some [y,z,u]):=by rfl)(hs:swapsWithSole [.Tuple [.Name y py,.Name z pz,.Name u pu] kt pt] (.Tuple [.Call (.Name cn q1) (e::es) [] q2,.Call (.Name cn q3) (e'::es') [] q4,.Call (.Name cn q5) (e3::es3) [] q6] k2 pt2) pos.line X.env=pure false:=by rfl):
  yc X (.Assign [.Tuple [.Name y py,.Name z pz,.Name u pu] kt pt] (.Tuple [.Call (.Name cn q1) (e::es) [] q2,.Call (.Name cn q3) (e'::es') [] q4,.Call (.Name cn q5) (e3::es3) [] q6] k2 pt2) pos::cT) (uV C i j m F n gl gl' gl3 g2):=λG₀ H₀ pins s σ H D I ⟨G,ρ,sr,h⟩=>by
 refine iW (EI hc hN hi hj hm hij him hjm hx hy hu (cW (wC c hr ha hg hdb he hpl) (cW (wC c hr hb hg hdb he' hpl') (cW (wC c hr h3 hg hdb he3 hpl3) jj hse3) hse2) hse) hw hs) (h2 G₀ H₀) pins s σ H D I ⟨G,ρ,sr.e,?_⟩;have h:∀q:Addr×Addr×Addr×α,jM X G₀ H₀ D ((fw (gl ρ>>=nT F n)).out ρ λfs=>(fw (gl' ρ>>=nT F n)).out ρ λfs'=>(fw (gl3 ρ>>=nT F n)).out ρ λf3=>g2 q.2.2.2 (((ρ.set i (some (.obj true C q.1 fs))).set j (some (.obj true C q.2.1 fs'))).set m (some (.obj true C q.2.2.1 f3)))):=h;cases q:gl ρ>>=nT F n with
 |ok fs=>
  rw[q]at h;intro x G' H' ow' u ob;refine⟨G',ρ,(sr.ups u).e,?_⟩;cases q':gl' ρ>>=nT F n with
  |ok fs'=>
   rw[q']at h;intro x' G2 H2 ow2 u2 ob2;refine⟨G2,ρ,((sr.ups u).ups u2).e,?_⟩;cases q'':gl3 ρ>>=nT F n with
   |ok f3=>rw[q'']at h;intro x3 G3 H3 ow3 u3 ob3;exact⟨.ref x,.ref x',.ref x3,rfl,G3,_,((sr.setObj u ob i).setObj u2 ob2 j).setObj u3 ob3 m,λq2=>h (x,x',x3,q2)⟩
   |_=>rw[q'']at h;exact(h (0,0,0,default)).elim
  |_=>rw[q']at h;exact(h (0,0,0,default)).elim
 |_=>rw[q]at h;exact(h (0,0,0,default)).elim
end
def EG(l:Addr)(items:Array Value)(n:Nat)(b:Addr)(items2:Array Value)(hs1:items.size+items2.size<=sizeLine):
  Meets (Builtin.«list.extend» { pos:=[.ref l,.ref b] }) λ_ R s=>s.heap.get? l=some { cls:=.type "list",data:=.seq items n }/\IsTup s.heap b items2/\R (.ok (.ret .none)) { s with heap:=s.heap.update l (Obj.mapSeq λx=>x++items2) }:=by
 intro prog w A R s ⟨hl,⟨o,e2,hc,n2,hd⟩,h⟩;refine wpAny_bind (wpAny_of_eq rfl ?_);refine wpAny_bind (wpAny_typeOf ⟨o,e2,hc⟩ ?_);rw[if_pos (by rw[Bool.or_eq_true];exact .inr (by decide))];refine wpAny_bind (wpAny_bind (wpAny_seqItems e2 hd (wpAny_pure ?_)));refine wpAny_bind (wpAny_bind (wpAny_seqItems hl rfl (wpAny_pure ?_)));rw[qj hs1,Bool.and_false,if_neg (by decide)];refine wpAny_bind (wpAny_updateSeq (_hz':=?_) hl rfl ?_);·exact wpAny_pure h
 ·rw[Array.size_append];omega
noncomputable def Ld(K:PySem.W.Frag):V->List V->Hp->VK->Prop:=λx vs H Q=>∃l b xs zs,x=.ref l/\vs=[.ref b]/\H l=some (.lst xs)/\SqT K H b zs/\xs.length+zs.length<=sizeLine/\Q .non (upd H l (.lst (xs++zs)))
theorem GC:MtM X "list.extend" (Ld X.K):=by
 intro pins s σ H x vs v us Q I rx rv h;obtain⟨l,b,xs,zs,rfl,rfl,hH,hB,hz,q⟩:=h;cases rx;obtain⟨u,rfl,ru⟩:=rv.one;cases ru;obtain⟨z,its,n,r,hl,e⟩:=I.lstM hH;obtain⟨its2,r2,it2,z2⟩:=I.tuple hB;have hl2:=r2.length;have hsz:its.toArray.size+its2.toArray.size<=sizeLine:=by rw[List.size_toArray,List.size_toArray];omega
 refine call_meets F.slot_list_extend ⟨_,e,rfl⟩ F.entry_list_extend (F.args_list_extend_2 _ _) (EG l its.toArray n b its2.toArray hsz) ⟨e,it2,?_⟩;refine⟨.non,_,I.lset hH e (by simp) (r.append r2) ?_,rfl,q⟩;rw[List.length_append];omega
noncomputable def asT:D->R (List D)
 |.tup xs=>.ok xs
 |_=>.no
noncomputable def Fw(i:Nat)(ga:Ev->R D):Ev->O:=λρ=>(ownAt ρ i).out ρ λds=>(ga ρ).out ρ λd=>(asT d).out ρ λes=>if ds.length+es.length<=sizeLine then .nx (ρ.set i (some (.own (ds++es))))else .no
def HZ{e:Expr}{ga:Ev->R D}(i:Nat){p ap cp:Pos}(he:PF X e ga)(hi:X.N[i]?=some x:=by rfl)(hv:Vis X.env.scope x:=by first|exact Or.inl rfl|exact Or.inr (Or.inl rfl))(hd:(x==("__debug__":Str))=false:=by decide)(hcd:(x==("__classdict__":Str))=false:=by decide)(hs1:starEach [e] X.env=(false,eval e X.env)::starEach [] X.env:=by rfl)(hbase:attributeBase (.Name x p) "extend" X.env (eval (.Name x p) X.env)=eval (.Name x p) X.env:=by rfl)(hfew:((backTo cp (starEach [e] X.env)).all (λx=>!x.1) && (backToKw cp (keywordEach [] X.env)).all (λx=>x.1.isSome)
 && decide ([e].length+([]:List Keyword).length+(if ([]:List Keyword).isEmpty then 0 else 1)<30))=true:=by rfl)(hline:(ap.endLine==cp.line)=true:=by rfl)(hs:swapsWith (.Call (.Attribute (.Name x p) "extend" ap) [e] [] cp) none pos.line X.env=pure false:=by rfl):
  PSF X (.Expr (.Call (.Attribute (.Name x p) "extend" ap) [e] [] cp) pos) (Fw i ga):=λG₀ H₀ pins s σ H D I h=>by
 refine jx (Ba PySem.F.plainAttrs_list PySem.F.slot_list_extend PySem.F.type_list_extend GC (dA hi hv hd hcd) (cW he jj hs1) hbase hfew hline hs1 rfl) hs pins s σ H D I ?_;obtain⟨G,ρ,sr,h⟩:=h;obtain⟨ds,e1,h⟩:=ownAt.ok h;obtain⟨l,vs,h1,h2,h3,h4,h5⟩:=sr.own i ds e1;refine⟨.ref l,h1,.inl ⟨rfl,vs,.of h2⟩,G,ρ,sr.e,?_⟩;cases q:ga ρ with
 |ok d=>
  rw[q]at h;intro v G' H' u r;cases r with
  |tup hb t=>
   rename_i b ws es;have h:jM X G₀ H₀ D (if ds.length+es.length<=sizeLine then .nx (ρ.set i (some (.own (ds++es))))else .no):=h;by_cases hz:ds.length+es.length<=sizeLine;·rw[if_pos hz]at h;refine⟨l,b,vs,ws,rfl,rfl,u.hh _ _ h2,hb.mono u.sub,by rw[h5.length,t.length];exact hz,h _ G' _ ?_⟩;exact(sr.ups u).mut e1 h1 ((h5.mono u.gg).append t)
   ·rw[if_neg hz]at h;exact h.elim
  |_=>exact h.elim
 |ex C=>rw[q]at h;exact Exx.of sr h
 |no=>rw[q]at h;exact h
noncomputable def sy(f:D->D->Option D)(ga:Ev->R D)(g:Ev->O):Ev->O:=λρ=>(ga ρ).out ρ λx=>match x with
 |.int i=>(g ρ).thenX λy ρ'=>(ofO (f (.int i) y)).out ρ' λd=>.re d ρ'
 |_=>.no
def EV{a b:Expr}{ga:Ev->R D}{op:CmpOp}{r:R2}{f:D->D->Option D}(ho:OpR X (compareOp op) r)(hf:ROk X.K r f)(ha:PF X a ga)(hb:PFX X b g)(hm:behindInMarks op b=false):PBX X (.Compare a [op] [b] pos) (sy f ga g):=λG₀ H₀ pins s σ H Q I ⟨G,ρ,sr,q⟩=>by
 refine qb ho ha (hb G₀ H₀) hm pins s σ H Q I (tX.read sr (λx e v G1 H1 u1 s1 r1=>?_) (λC e=>?_) λe=>?_)
 ·unfold sy at q;rw[e]at q;cases x with
  |int i=>
   refine⟨G1,ρ,s1,?_⟩;cases e2:g ρ with
   |re y ρ'=>
    rw[e2]at q;intro w G2 H2 s2 r2;have q:M5 X G₀ H₀ σ Q ((ofO (f (.int i) y)).out ρ' λd=>.re d ρ'):=q;cases e3:f (.int i) y with
    |none=>rw[e3]at q;exact q.elim
    |some d=>rw[e3]at q;obtain⟨k,rfl,q⟩:=q;refine hf G2 H2 v w (.int i) y (.bl k) _ s2.e.sub (by rw[r1.int_inv];exact .int i) r2 e3 λz G3 H3 u3 r3=>?_;obtain rfl:=r3.bl_inv;exact⟨k,rfl,q G3 H3 (s2.ups u3)⟩
   |ex C ρ'=>rw[e2]at q;exact q
   |_=>rw[e2]at q;exact q.elim
  |_=>exact q.elim
 ·unfold sy at q;rw[e]at q;exact q
 ·unfold sy at q;rw[e]at q;exact q
def HR{a b:Expr}{ga:Ev->R D}(hu:X.A.units+64<cLine)(ha:PF X a ga)(hb:PFX X b g):PBX X (.Compare a [.NotEq] [b] pos) (sy neF ga g):=EV (DS hu) (zE _ true) ha hb (jh _)
def GK{a b c:Expr}{ga gc:Ev->R D}(ha:PF X a ga)(hb:PF X b gb)(hc:PF X c gc)(hm:lastMarks [.GtE,.GtE] [b,c]=false:=by with_unfolding_all rfl):PF X (.Compare a [.GtE,.GtE] [b,c] pos) (g3 geD geD ga gb gc):=wo Fo Fo (FC _) (FC _) ha hb hc hm
section
variable{g1 g2':Ev->O}{gt gu:Ev->R Bool}{ga gc:Ev->R D}{go gp:Ev->R (Option Int)}{n:Nat}{f f':D->D->Option D}
def Ge:ao g1 g2' ρ=(g1 ρ).seq g2':=rfl
def Ou:oIf gt g1 g2' ρ=(gt ρ).out ρ λk=>if k=true then g1 ρ else g2' ρ:=rfl
def Kn:eU i ga ρ=(ga ρ).out ρ λd=>.nx (ρ.set i (some (.val d))):=rfl
def K4:cF ga ρ=(ga ρ).out ρ .rt:=rfl
def NQ:oNx ρ=.nx ρ:=rfl
def Mo:zu i gl ρ=(gl ρ).out ρ λds=>.nx (ρ.set i (some (.own ds))):=rfl
def IE:nh ga ρ=(ga ρ).out ρ λ_=>.nx ρ:=rfl
def Ie:oN asg gl g ρ=(gl ρ).out ρ λitems=>cg asg g items ρ:=rfl
def FS:lh C gl ρ=(gl ρ).out ρ λ_=>.ex C ρ:=rfl
def KU:Oq asg ga ρ=(ga ρ).out ρ λd=>(asg d ρ).out ρ .nx:=rfl
def Lx:Bz i g ρ=g (frz i ρ):=rfl
def D3{α β:Type}{h:α->R β}{gx:Ev->R α}:ax h gx ρ=gx ρ>>=h:=rfl
def Om{h:List D->Option D}:gOf h gl ρ=gl ρ>>=λds=>ofO (h ds):=rfl
def sJ:ac ga gl ρ=ga ρ>>=λx=>gl ρ>>=λxs=>.ok (x::xs):=rfl
def Ex:cL gl ρ=gl ρ>>=λds=>.ok (.lst false ds):=rfl
def Mx:tj gl ρ=gl ρ>>=λds=>if ds.length<=sizeLine then .ok ds else .no:=rfl
def Oo:gB2 f ga gb ρ=g2 f ga gb ρ>>=asB:=rfl
def NC:gB3 f f' ga gb gc ρ=g3 f f' ga gb gc ρ>>=asB:=rfl
def OJ:gBn gt ρ=gt ρ>>=λk=>.ok (!k):=rfl
def Js:fK ga ρ=ga ρ>>=λx=>asI x>>=λi=>.ok (some i):=rfl
def Ic{T:String}{h:D->List D->Option D}:va T h ga gl ρ=ga ρ>>=λx=>if mf T x=true then gl ρ>>=λds=>ofO (h x ds)else .no:=rfl
def NZ:g2 f ga gb ρ=ga ρ>>=λx=>gb ρ>>=λy=>ofO (f x y):=rfl
def L0:lA ga gb ρ=ga ρ>>=λx=>asB x>>=λk=>if k=true then gb ρ else .ok (.bl false):=rfl
def ND:gOr ga gb ρ=ga ρ>>=λx=>asB x>>=λk=>if k=true then .ok (.bl true)else gb ρ:=rfl
def Li:MA ga ρ=ga ρ>>=λx=>asB x>>=λk=>.ok (.bl (!k)):=rfl
def I9:EZ gt gu ρ=gt ρ>>=λk=>if k=true then gu ρ else .ok false:=rfl
def Lj:vp gt gu ρ=gt ρ>>=λk=>if k=true then .ok true else gu ρ:=rfl
def MH:gIf gt ga gb ρ=gt ρ>>=λk=>if k=true then ga ρ else gb ρ:=rfl
def NU:gSl ga go gp ρ=ga ρ>>=λx=>go ρ>>=λl=>gp ρ>>=λu=>ofO (CJ l u x):=rfl
def Hn:ib gl ix gt ga ρ=gl ρ>>=λitems=>gW gt ga items (jm ix ρ)>>=λds=>if ds.length<=sizeLine then .ok ds else .no:=rfl
def zf{h:List D->R D}:az 1 h (ac ga λ_=>.ok []) ρ=ga ρ>>=λx=>h [x]:=D6
def GW{h:List D->R D}:az 2 h (ac ga (ac gb λ_=>.ok [])) ρ=ga ρ>>=λx=>gb ρ>>=λy=>h [x,y]:=AA
def Eu{h:List D->R D}:az 3 h (ac ga (ac gb (ac gc λ_=>.ok []))) ρ=ga ρ>>=λx=>gb ρ>>=λy=>gc ρ>>=λz=>h [x,y,z]:=zT
def GD{h:List D->R D}{gd:Ev->R D}:az 4 h (ac ga (ac gb (ac gc (ac gd λ_=>.ok [])))) ρ=ga ρ>>=λx=>gb ρ>>=λy=>gc ρ>>=λz=>gd ρ>>=λu=>h [x,y,z,u]:=by
 unfold az;simp only[sJ];cases ga ρ <;> try rfl
 cases gb ρ <;> try rfl
 cases gc ρ <;> try rfl
 cases gd ρ <;> rfl
end
def K0(i:Nat)(ga:Ev->R D)(ρ:Ev):KN i ga ρ=(ownAt ρ i).out ρ λds=>(ga ρ).out ρ λd=>(asL d).out ρ λes=>if ds.length+es.length<=sizeLine then .nx (ρ.set i (some (.own (ds++es))))else .no:=rfl
def Mm(i:Nat)(ga:Ev->R D)(ρ:Ev):JF i ga ρ=(ownAt ρ i).out ρ λds=>(ga ρ).out ρ λd=>if ds.length<sizeLine then .nx (ρ.set i (some (.own (ds++[d]))))else .no:=rfl
def L9(i j:Nat)(gl:Ev->R (List D))(ρ:Ev):KL i j gl ρ=(gl ρ).out ρ λds=>(qM [i,j] ds ρ).out ρ .nx:=rfl
def NF(ds:List D)(ρ:Ev):ownAt (some (.own ds)::ρ) 0=.ok ds:=rfl
def N2(a0:Option Sl)(ds:List D)(ρ:Ev):ownAt (a0::some (.own ds)::ρ) 1=.ok ds:=rfl
def On(a0 a1:Option Sl)(ds:List D)(ρ:Ev):ownAt (a0::a1::some (.own ds)::ρ) 2=.ok ds:=rfl
def asl(ds:List D):asL (.lst false ds)=.ok ds:=rfl
def NO(a0:Option Sl)(ds:List D)(ρ:Ev):frz 1 (a0::some (.own ds)::ρ)=a0::some (.val (.lst false ds))::ρ:=rfl
noncomputable def g3k(f':D->D->Option D)(r:R D)(y:D):D->R D
 |.bl true=>r>>=λw=>ofO (f' y w)
 |.bl false=>.ok (.bl false)
 |_=>.no
def NG(f f':D->D->Option D)(ga gb gc:Ev->R D)(ρ:Ev):g3 f f' ga gb gc ρ=ga ρ>>=λx=>gb ρ>>=λy=>ofO (f x y)>>=g3k f' (gc ρ) y:=rfl
def LM(f':D->D->Option D)(r:R D)(y:D)(b:Bool):g3k f' r y (.bl b)=if b=true then (r>>=λw=>ofO (f' y w))else .ok (.bl false):=by cases b <;> rfl
def sv2(i j:Nat)(x y:D)(ρ:Ev):qM [i,j] [x,y] ρ=.ok ((ρ.set i (some (.val x))).set j (some (.val y))):=rfl
def NB(a0 a1 a2 a3:Option Sl)(ds:List D)(ρ:Ev):frz 4 (a0::a1::a2::a3::some (.own ds)::ρ)=a0::a1::a2::a3::some (.val (.lst false ds))::ρ:=rfl
def xZ(ρ:Ev)(k:Ev->O):(O.nx ρ).seq k=k ρ:=rfl
def LR(d:D)(k:Ev->O):(O.rt d).seq k=.rt d:=rfl
def N1(C:Addr)(ρ:Ev)(k:Ev->O):(O.ex C ρ).seq k=.ex C ρ:=rfl
def No(k:Ev->O):(O.no).seq k=.no:=rfl
def MX(d:D):ak (.rt d)=.ok d:=rfl
def NX(ρ:Ev):ak (.nx ρ)=.ok .non:=rfl
def Ol(C:Addr)(ρ:Ev):ak (.ex C ρ)=.ex C:=rfl
def OC(k:Bool):asB (.bl k)=.ok k:=rfl
def uH(i:Int):asI (.int i)=.ok i:=rfl
def NW(k:Bool):lG (.bl k)=.ok k:=rfl
def rd7(a0 a1 a2 a3 a4 a5 a6:Option Sl)(d:D)(ρ:Ev):rdV (a0::a1::a2::a3::a4::a5::a6::some (.val d)::ρ) 7=.ok d:=rfl
def rd8(a0 a1 a2 a3 a4 a5 a6 a7:Option Sl)(d:D)(ρ:Ev):rdV (a0::a1::a2::a3::a4::a5::a6::a7::some (.val d)::ρ) 8=.ok d:=rfl
def rd9(a0 a1 a2 a3 a4 a5 a6 a7 a8:Option Sl)(d:D)(ρ:Ev):rdV (a0::a1::a2::a3::a4::a5::a6::a7::a8::some (.val d)::ρ) 9=.ok d:=rfl
def OE(a0 a1 a2 a3 a4 a5 a6 a7 a8 a9:Option Sl)(d:D)(ρ:Ev):rdV (a0::a1::a2::a3::a4::a5::a6::a7::a8::a9::some (.val d)::ρ) 10=.ok d:=rfl
def OG(a0 a1 a2 a3 a4 a5 a6 a7 a8 a9 a10:Option Sl)(d:D)(ρ:Ev):rdV (a0::a1::a2::a3::a4::a5::a6::a7::a8::a9::a10::some (.val d)::ρ) 11=.ok d:=rfl
def Ov(a0 a1 a2 a3 a4 a5 a6 a7 a8 a9 a10 a11:Option Sl)(d:D)(ρ:Ev):rdV (a0::a1::a2::a3::a4::a5::a6::a7::a8::a9::a10::a11::some (.val d)::ρ) 12=.ok d:=rfl
section
variable(i j:Int)
def Ma:bJ (.int i) (.int j)=some (.int (i+j)):=by simp only[bJ]
def KT:wB (.int i) (.int j)=some (.int (i - j)):=by simp only[wB]
def NS:leD (.int i) (.int j)=some (.bl (decide (i<=j))):=by simp only[leD]
def NM:ltD (.int i) (.int j)=some (.bl (decide (i<j))):=by simp only[ltD]
def NV:gtD (.int i) (.int j)=some (.bl (decide (j<i))):=by simp only[gtD]
def Ny:geD (.int i) (.int j)=some (.bl (decide (j<=i))):=by simp only[geD]
def N6:eqF (.int i) (.int j)=some (.bl (i==j)):=by simp only[eqF,eqD,Option.map_some]
def M6:neF (.int i) (.int j)=some (.bl (!(i==j))):=by simp only[neF,eqD,Option.map_some]
end
def DB{i j:Int}(h : -(2 ^ 64)<i/\i<2 ^ 64):gB (.int i) (.int j)=some (.int (i * j)):=by simp only[gB];rw[if_pos (Or.inl h)]
def um{x y:List Nat}(h:x.length+y.length<=sizeLine):bJ (.str x) (.str y)=some (.str (x++y)):=by simp only[bJ];rw[if_pos h]
def Ip{x y:List D}(h:x.length+y.length<=sizeLine):bJ (.tup x) (.tup y)=some (.tup (x++y)):=by simp only[bJ];rw[if_pos h]
def M3(x y:List Nat):eqF (.str x) (.str y)=some (.bl (x==y)):=by simp only[eqF,eqD,Option.map_some]
def NH(x y:List Nat):neF (.str x) (.str y)=some (.bl (!(x==y))):=by simp only[neF,eqD,Option.map_some]
def wD{α:Type}(n:Nat)(x:α):(List.replicate n [x]).flatten=List.replicate n x:=by
 induction n with
 |zero=>rfl
 |succ n ih=>rw[List.replicate_succ,List.flatten_cons,ih];rfl
def bo:(1000:Nat)<=sizeLine:=by decide
def HP{c n:Nat}(h:n<=1000):gB (.str [c]) (.int (n:Int))=some (.str (List.replicate n c)):=by have:=bo;simp only[gB];rw[if_pos (by refine⟨by omega,by omega,?_⟩;simp;omega),Int.toNat_natCast,wD]
def L5{c:D}{n:Nat}(h:n<=1000):gB (.lst false [c]) (.int (n:Int))=some (.lst false (List.replicate n c)):=by have:=bo;simp only[gB];rw[if_pos (by refine⟨by omega,by omega,?_⟩;simp;omega),Int.toNat_natCast,wD]
def HC{xs:List D}(h:xs[k]?=some d):ixD (.tup xs) (.int (k:Int))=some d:=by simp only[ixD];exact uB h
def M1{xs:List D}(h:xs[k]?=some d):ixD (.lst fz xs) (.int (k:Int))=some d:=by simp only[ixD];exact uB h
def KM{x:List Nat}{c:Nat}(h:x[k]?=some c):ixD (.str x) (.int (k:Int))=some (.str [c]):=by simp only[ixD];rw[uB h];rfl
def Aa{α:Type}(xs:List α)(k:Nat):km xs none (some (k:Int))=xs.take k:=by
 unfold km;rw[HT.sIx_none,HT.sIx_nat,List.drop_zero,Nat.sub_zero];by_cases h:k<=xs.length;·rw[Nat.min_eq_left h]
 ·rw[Nat.min_eq_right (by omega),List.take_length,List.take_of_length_le (by omega)]
def yG{α:Type}(xs:List α)(k:Nat):km xs (some (k:Int)) none=xs.drop k:=by
 unfold km;rw[HT.sIx_none,HT.sIx_nat];by_cases h:k<=xs.length;·rw[Nat.min_eq_left h,List.take_of_length_le (by simp)]
 ·rw[Nat.min_eq_right (by omega),List.drop_length,List.take_nil,List.drop_of_length_le (by omega)]
def GE(lo hi:Option Int)(x:List Nat):CJ lo hi (.str x)=some (.str (km x lo hi)):=rfl
def KY(lo hi:Option Int)(x:List D):CJ lo hi (.tup x)=some (.tup (km x lo hi)):=rfl
def Me(fz:Bool)(x:List D):fD [.lst fz x]=some (.int x.length):=rfl
def IW(x:List D):fD [.tup x]=some (.int x.length):=rfl
def LP(x:List Nat):fD [.str x]=some (.int x.length):=rfl
def m_t(h:ds.length<=1000):mkT ds=.ok (.tup ds):=if_pos (Nat.le_trans h bo)
def wq{n:Nat}(h:n<=1000):cI [.int (n:Int)]=.ok ((List.range n).map λ(i:Nat)=>D.int (i:Int)):=by
 have e:cI [.int (n:Int)]=if -(2 ^ 62)<=(n:Int)/\(n:Int)<2 ^ 62 then .ok ((List.range (n:Int).toNat).map λi=>D.int (0+(i:Nat)))else .no:=by simp only[cI]
 rw[e,if_pos (by constructor <;> omega),Int.toNat_natCast];simp only[Int.zero_add]
def OA{α:Type}(a v:α)(l:List α):(a::l).set 0 v=v::l:=rfl
def qm(asg:D->Ev->R Ev)(g:Ev->O)(ρ:Ev):cg asg g [] ρ=.nx ρ:=rfl
def dX{ρ1 ρ2:Ev}(h1:asg d ρ=.ok ρ1)(h2:g ρ1=.nx ρ2):cg asg g (d::ds) ρ=cg asg g ds ρ2:=by
 rw[cg,h1];show(match g ρ1 with
  |.nx ρ2=>cg asg g ds ρ2
  |.ct ρ2=>cg asg g ds ρ2
  |.bk ρ2=>O.nx ρ2
  |.rt d=>O.rt d
  |.re d ρ2=>.re d ρ2
  |.ex C ρ2=>O.ex C ρ2
  |.no=>O.no)=_;rw[h2]
def mO{e:Expr}{p:Pos}(hg:Gl X "tuple")(hm:X.mg "tuple"=none)(ha:PFA X [e] gl)(he:starEach [e] X.env=(false,eval e X.env)::starEach [] X.env:=by rfl):
  PF X (.Call (.Name "tuple" p) [e] [] pos) (gOf jR gl):=Ac qh (CA _) hg hm PyProof.Rows.Boot.«tuple» ha (by decide) (by decide) he rfl
def MG{a b:Expr}{ga:Ev->R D}(ha:PF X a ga)(hb:PF X b gb):PB X (.Compare a [.GtE] [b] pos) (gB2 geD ga gb):=MR ha hb
noncomputable def jg:D->List D->Option D
 |.str x,[.int i]=>if -1000<=i/\i<=1000 then some (.str (x++List.replicate (i.toNat - x.length) 32))else none
 |_,_=>none
noncomputable def DQ:V->List V->Hp->VK->Prop:=λx vs H Q=>∃(y:Str)(i:Int),x=.str y/\vs=[.int i]/\-1000<=i/\i<=1000/\Q (.str (Txt.ljust y i)) H
def Cd:MtR X "str.ljust" DQ:=by intro pins s σ H x xs v us Q I rx rv ⟨y,i,ex,exs,h1,h2,q⟩;subst ex exs;obtain⟨t,rfl⟩:=rx;obtain⟨u,rfl,r1⟩:=rv.one;obtain⟨t',rfl⟩:=r1;exact SC.ljust (padOk_of (by omega) (by omega)) (λt'' k=>⟨.str _,H,I.tok _,⟨_,rfl⟩,q⟩)
def rq(y:Str)(i:Int):(Txt.ljust y i).cps.toList=y.cps.toList++List.replicate (i.toNat - y.cps.toList.length) 32:=by
 unfold Txt.ljust;have hl:y.length=y.cps.toList.length:=by simp[Str.length]
 split
 ·have:i.toNat - y.cps.toList.length=0:=by omega
  rw[this];simp
 ·simp[Builtin.Str.padded,Str.length]
def C2(K:PySem.W.Frag):MI K "str" DQ jg:=by
 intro G H x xs dx ds d Q s rx rs e q;unfold jg at e;split at e
 ·split at e
  ·rename_i hi;cases e;obtain⟨v,rfl,r1⟩:=rs.one;obtain⟨y,rfl,ey,hy⟩:=rx.str_inv;obtain rfl:=r1.int_inv;refine⟨y,_,rfl,rfl,hi.1,hi.2,q _ G H (.refl s) (.strL (by rw[rq,ey]) ?_)⟩;have h1:y.length=y.cps.toList.length:=by simp[Str.length]
   have:=bo;rw[h1,ey]at hy;simp;omega
  ·cases e
 ·cases e
def Am{o e:Expr}{ga:Ev->R D}{ap cp:Pos}(ho:PF X o ga)(ha:PFA X [e] gl)(hbase:attributeBase o "ljust" X.env (eval o X.env)=eval o X.env:=by rfl)(hfew:((backTo cp (starEach [e] X.env)).all (λx=>!x.1) && (backToKw cp (keywordEach [] X.env)).all (λx=>x.1.isSome)
 && decide ([e].length+([]:List Keyword).length+(if ([]:List Keyword).isEmpty then 0 else 1)<30))=true:=by rfl)(hline:(ap.endLine==cp.line)=true:=by rfl)(hs:starEach [e] X.env=(false,eval e X.env)::starEach [] X.env:=by rfl):
  PF X (.Call (.Attribute o "ljust" ap) [e] [] cp) (va "str" jg ga gl):=zL PySem.F.plainAttrs_str PySem.F.slot_str_ljust PySem.F.type_str_ljust Cd (C2 _) ho ha hbase hfew hline hs rfl
def N9{l:List Str}{y5 y6 y7 y8 y9 y10 y11:Str}:At (y0::y1::y2::y3::y4::y5::y6::y7::y8::y9::y10::y11::x::l) 12 x:=rfl
def Ob(a0 a1 a2 a3 a4 a5 a6 a7 a8 a9 a10 a11 a12:Option Sl)(d:D)(ρ:Ev):rdV (a0::a1::a2::a3::a4::a5::a6::a7::a8::a9::a10::a11::a12::some (.val d)::ρ) 13=.ok d:=rfl
def Nq(a0 a1 a2 a3 a4 a5 a6 a7 a8 a9 a10 a11 a12 a13:Option Sl)(d:D)(ρ:Ev):rdV (a0::a1::a2::a3::a4::a5::a6::a7::a8::a9::a10::a11::a12::a13::some (.val d)::ρ) 14=.ok d:=rfl
def Lf(i:Nat)(gt:Ev->R Bool)(g1 g2:Ev->O)(ρ:Ev):MJ i gt g1 g2 ρ=(fw (gt (frz i ρ))).out ρ λk=>if k=true then g1 ρ else g2 ρ:=rfl
def Hu(j i:Nat)(ga:Ev->R D)(ρ:Ev):Bo j i ga ρ=(fw (ga (frz j ρ))).out ρ λd=>if fl 10 d=true then .nx (ρ.set i (some (.val d)))else .no:=rfl
def HS(j i:Nat)(ga:Ev->R D)(ρ:Ev):Mh j i ga ρ=(ownAt ρ i).out ρ λds=>(fw (ga (frz j ρ))).out ρ λd=>if ds.length<sizeLine/\fl 10 d=true then .nx (ρ.set i (some (.own (ds++[d]))))else .no:=rfl
noncomputable def Jd(i:Nat)(ρ:Ev)(ds:List D)(d:D):Option Nat->O
 |some n=>if fl 10 d=true then .nx (ρ.set i (some (.own (ds.set n d))))else .no
 |none=>.no
def Jp(i:Nat)(gk ga:Ev->R D)(ρ:Ev):Ci i gk ga ρ=(ownAt ρ i).out ρ λds=>(fw (ga (frz i ρ))).out ρ λd=>(fw (gk (frz i ρ)>>=asI)).out ρ λk=>Jd i ρ ds d (ixN ds.length k):=rfl
def wT(i:Nat)(ρ:Ev)(ds:List D)(d:D)(n:Nat):Jd i ρ ds d (some n)=if fl 10 d=true then .nx (ρ.set i (some (.own (ds.set n d))))else .no:=rfl
def IQ(gl:Ev->R (List D))(ρ:Ev):Ez gl ρ=gl ρ>>=GF:=rfl
def MC(xs:List D):GF [.tup xs]=.ok xs:=rfl
def Ha(ga gb:Ev->R D)(ρ:Ev):Jj ga gb ρ=ga ρ>>=λx=>gb ρ>>=λc=>Eg x c:=rfl
def Fu(n:Nat)(asg:D->Ev->R Ev)(gl:Ev->R (List D))(ix:List Nat)(gt:Ev->R Bool)(ga:Ev->R D)(ρ:Ev):oT n asg gl ix gt ga ρ=gl ρ>>=λitems=>gX asg gt ga items (gP n ix ρ)>>=λds=>if ds.length<=sizeLine then .ok ds else .no:=rfl
def Iu(i j:Nat)(ga:Ev->R D)(gl:Ev->R (List D))(ρ:Ev):Lv i j ga gl ρ=(ga ρ).out ρ λd=>(gl ρ).out ρ λds=>.nx ((ρ.set i (some (.val d))).set j (some (.own ds))):=rfl
def Mz(f:Bool)(lo hi:Option Int)(x:List D):CJ lo hi (.lst f x)=some (.lst false (km x lo hi)):=rfl
def Ly(ga gs:Ev->R D)(ρ:Ev):Oa ga gs ρ=ga ρ>>=λx=>gs ρ>>=λk=>KJ x k:=rfl
def KW(x:List Nat):KJ (.str x) (.int (-1))=.ok (.str x.reverse):=rfl
def MM(f:Bool)(x:List D):KJ (.lst f x) (.int (-1))=.ok (.lst false x.reverse):=rfl
def Ll(f:Bool)(xs:List D):GF [.lst f xs]=.ok xs:=rfl
noncomputable def ME(i:Nat):O->O
 |.nx ρ=>.nx (ρ.set i none)
 |.rt d=>.rt d
 |_=>.no
noncomputable def JM(gs:Ev->O)(f:Addr->Option Bool)(i:Nat):O->O
 |.ex C ρ=>(match f C with
  |some true=>ME i (gs (ρ.set i (some (.val (.exc C)))))
  |_=>.no)
 |o=>o
def LF(gb gs:Ev->O)(f:Addr->Option Bool)(i:Nat)(ρ:Ev):Nj gb gs f i ρ=JM gs f i (gb ρ):=by unfold Nj JM;cases gb ρ <;> rfl
def GJ(gs:Ev->O)(f:Addr->Option Bool)(i:Nat)(ρ:Ev):JM gs f i (.nx ρ)=.nx ρ:=rfl
def FJ{gs:Ev->O}{f:Addr->Option Bool}(h:f C=some true):JM gs f i (.ex C ρ)=ME i (gs (ρ.set i (some (.val (.exc C))))):=by simp only[JM,h]
def Fm(i:Nat)(ρ:Ev):ME i (.nx ρ)=.nx (ρ.set i none):=rfl
noncomputable def IX(gs:List (Ev->R D))(out:List Nat)(ρ:Ev):D->R D
 |.str x=>if (out++x).length<=sizeLine then tY gs (out++x) ρ else .no
 |_=>.no
def JB(gs:List (Ev->R D))(ρ:Ev):LY gs ρ=tY gs [] ρ:=rfl
def EY(out:List Nat)(ρ:Ev):tY [] out ρ=.ok (.str out):=rfl
def Ew(g:Ev->R D)(gs:List (Ev->R D))(out:List Nat)(ρ:Ev):tY (g::gs) out ρ=g ρ>>=IX gs out ρ:=rfl
def Gy(gs:List (Ev->R D))(out:List Nat)(ρ:Ev)(x:List Nat):IX gs out ρ (.str x)=if (out++x).length<=sizeLine then tY gs (out++x) ρ else .no:=rfl
def LJ(x:List Nat):NL (.str x)=.ok (.str x):=rfl
def Kf(j i:Nat)(gl:Ev->R (List D))(ρ:Ev):Lz j i gl ρ=(fw (gl (frz j ρ))).out ρ λds=>if ds.all (fl 10)=true then .nx (ρ.set i (some (.own ds)))else .no:=rfl
def LS(n:Nat)(gt:Ev->R Bool)(g:Ev->O)(ρ:Ev):Ji n gt g ρ=wg gt g n ρ:=rfl
def F0(gi:Ev->R (List D))(ix:List Nat)(gt:Ev->R Bool)(ge:Ev->R D)(ρ:Ev):JP gi ix gt ge ρ=gi ρ>>=λitems=>if items.length<=sizeLine then wt (la 0) gt ge items (jm ix ρ)else .no:=rfl
def GZ(C:Addr)(i k:Nat)(gb:Ev->R D)(ρ:Ev):vT C i k gb ρ=(qP C ρ i>>=λfs=>fldL fs k>>=λds=>gb ρ>>=λd=>ofO (ixD (.lst false ds) d)):=rfl
def BG(C:Addr)(i k:Nat)(ρ:Ev):Ey C i k ρ=(qP C ρ i>>=λfs=>fldL fs k>>=λds=>.ok (.int ds.length)):=rfl
def Jr(C:Addr)(i k:Nat)(ga:Ev->R D)(ρ:Ev):Fh C i k ga ρ=(rW C ρ i).out ρ λo=>(fldL o.2 k).out ρ λds=>(ga ρ).out ρ λd=>if ds.length<sizeLine then .nx (ρ.set i (some (.obj true C o.1 (jG k (.own (ds++[d])) o.2))))else .no:=rfl
def Kh(C:Addr)(i k:Nat)(gl:Ev->R (List D))(ρ:Ev):Bb C i k gl ρ=(rW C ρ i).out ρ λo=>(gl ρ).out ρ λds=>if o.2.length<900 then .nx (ρ.set i (some (.obj true C o.1 (jG k (.own ds) o.2))))else .no:=rfl
def Kw(ga:Ev->R D)(ρ:Ev):B6 ga ρ=(ga ρ).out ρ λd=>.re d ρ:=rfl
def FK(C:Addr)(i n:Nat)(F:MF)(gl:Ev->R (List D))(ρ:Ev):J6 C i n F gl ρ=(qP C ρ i>>=λfs=>gl ρ>>=λds=>if ds.length=n then (F fs ds).read else .no):=rfl
def Ds(C:Addr)(i:Nat)(F:MF)(ρ:Ev):bX C i F ρ=(qP C ρ i>>=λfs=>(F fs []).read):=rfl
def EL(C:Addr)(i n:Nat)(F:MF)(gl:Ev->R (List D))(ρ:Ev):mJ C i n F gl ρ=(rW C ρ i).out ρ λo=>(gl ρ).out ρ λds=>if ds.length=n then (F o.2 ds).out C o.1 i ρ else .no:=rfl
def Fa(C:Addr)(i:Nat)(F:MF)(ρ:Ev):Ht C i F ρ=(rW C ρ i).out ρ λo=>(F o.2 []).out C o.1 i ρ:=rfl
def N8(d:D)(ρ:Ev)(k:Ev->O):(O.re d ρ).seq k=.re d ρ:=rfl
def K1(d:D):RM.read (.rd d)=.ok d:=rfl
def Lo(C:Addr):RM.read (.ex C)=.ex C:=rfl
def HE(d:D)(fs:List (Nat×Fd))(C p:Addr)(i:Nat)(ρ:Ev):RM.out (.ok d fs) C p i ρ=.nx (ρ.set i (some (.obj true C p fs))):=rfl
def JW(d:D)(C p:Addr)(i:Nat)(ρ:Ev):RM.out (.rd d) C p i ρ=.nx ρ:=rfl
def H9(E C p:Addr)(i:Nat)(ρ:Ev):RM.out (.ex E) C p i ρ=.ex E ρ:=rfl
end L2
section
open L2
set_option compiler.extract_closed false in
local macro_rules | `(tactic| walk_at "run")=>`(tactic| simp -implicitDefEqProofs only[rvz,ciz,nlz,csz,HN,Jq,HF,Ko,F0,↓zf,↓GW,↓Eu,↓GD,Ge,Ou,Kn,K4,NQ,Mo,IE,Ie,FS,KU,Lx,D3,Om,sJ,Ex,Mx,Oo,NC,OJ,Js,Ic,NZ,L0,ND,Li,I9,Lj,MH,NU,Hn,K0,Mm,HS,Lf,Hu,Jp,mB,IQ,Ha,Fu,Iu,Mz,Ly,KW,MM,wT,MC,Ll,Ob,Nq,and_self,L9,NF,N2,On,asl,NO,NB,NG,LM,sv2,xZ,LR,N1,No,MX,NX,Ol,OC,uH,NW,rd0,rd1,rd2,rd3,rd4,rd5,rd6,rd7,rd8,rd9,OE,OG,Ov,R.ok_bind,R.ok_out,R.ex_bind,R.ex_out,dL,Ma,KT,NS,NM,NV,Ny,N6,M6,M3,NH,Me,IW,LP,GE,KY,OA,List.set_cons_succ,List.length_nil,List.length_cons,List.cons_append,List.nil_append,Nat.reduceAdd,Nat.reduceBEq,Bool.not_true,Bool.not_false,Bool.false_eq_true,if_false,if_true,Kf,LS,LF,GJ,FJ,Fm,JB,EY,Ew,Gy,LJ,Int.reduceLT,Int.reduceLE,Int.reduceBEq,decide_true,decide_false,GZ,BG,Jr,Kh,Kw,FK,Ds,EL,Fa,N8,K1,Lo,HE,JW,H9, *])
namespace Q
open L2
open PySem (sizeLine Addr)
noncomputable def M7:D->Bool
 |.int _=>true
 |_=>false
noncomputable def C4:List D->R D
 | [.exc _]=>.no
 | [.dct _ _]=>.no
 | [d]=>.ok (.bl (M7 d))
 |_=>.no
noncomputable def hZ:Ev->O:=(ao (cF (lA (ax (kX isInt) (rvz 0)) (MA (ax (kX (·=="bool")) (rvz 0))))) oNx)
def uZ:∀ds:List D,ds.length=1->C4 ds=.no\/ak (hZ  (aj 1 ds))=C4 ds:=by
 intro ds hl
 match ds,hl with
 | [d],_=>cases d <;> first|exact Or.inr rfl|exact Or.inl rfl
noncomputable def inB(d:D)(lo hi:Int):Bool:=match d with
 |.int i=>decide (lo<=i) && decide (i<=hi)
 |_=>false
noncomputable def Be:List D->R D
 | [.exc _,_,_]=>.no
 | [.dct _ _,_,_]=>.no
 | [d,.int lo,.int hi]=>.ok (.bl (inB d lo hi))
 |_=>.no
noncomputable def fW(fE:List D->R D):Ev->O:=(ao (cF (lA (az 1 fE (ac (rvz 0) nlz)) (g3 leD leD (rvz 1) (rvz 0) (rvz 2)))) oNx)
def qS:∀ds:List D,ds.length=3->Be ds=.no\/ak (fW C4 (aj 3 ds))=Be ds:=by
 intro ds hl
 match ds,hl with
 | [d,l,h],_=>
  cases d <;> first|exact Or.inl rfl|skip
  all_goals (cases l <;> first|exact Or.inl rfl|skip)
  all_goals (cases h <;> first|exact Or.inl rfl|skip)
  all_goals first|exact Or.inr rfl|skip
  rename_i i lo hi hl;refine Or.inr ?_;show ak (ao _ oNx [some (.val (.int i)),some (.val (.int lo)),some (.val (.int hi))])=R.ok (D.bl (inB (.int i) lo hi));by_cases h1:lo<=i <;> simp[ao,cF,lA,az,ac,g3,rdV,C4,M7,asB,leD,inB,ak,O.seq,h1]
noncomputable def aX(x:List Nat):Bool:=x.all λc=>decide (32<=c) && decide (c<=126)
noncomputable def NN:D->Bool
 |.str x=>aX x
 |_=>false
noncomputable def lv:List D->R D
 | [.exc _]=>.no
 | [.dct _ _]=>.no
 | [.str x]=>if x.length<=sizeLine then .ok (.bl (aX x))else .no
 | [d]=>.ok (.bl false)
 |_=>.no
noncomputable def iu:Ev->O:=(ao (cF (lA (ax (kX (·=="str")) (rvz 0)) (gOf BR (ac (cL (ib (ax bI (rvz 0)) [] (λ_=>R.ok true) (g3 leD leD (csz [32]) (rvz 0) (csz [126])))) nlz)))) oNx)
def ud:∀ds:List D,ds.length=1->lv ds=.no\/ak (iu  (aj 1 ds))=lv ds:=by
 intro ds hl
 match ds,hl with
 | [d],_=>
  cases d <;> first|exact Or.inl rfl|exact Or.inr rfl|skip
  rename_i x hl;by_cases hx:x.length<=sizeLine
  ·refine Or.inr ?_;have e:gW (λ_=>R.ok true) (g3 leD leD (λ_=>.ok (.str [32])) (rvz 0) (λ_=>.ok (.str [126]))) (x.map λc=>D.str [c]) [none]=.ok ((x.map λc=>D.str [c]).map λd=>.bl (match d with|.str [c]=>decide (32<=c) && decide (c<=126)|_=>false)):=by
    refine nN _ [] _ none λd m=>⟨rfl,?_⟩
    obtain⟨c,_,rfl⟩:=List.mem_map.1 m;show(ofO (some (D.bl (!decide (([c]:List Nat)<[32]))))>>=λz=>match z with
     |.bl true=>ofO (some (D.bl (!decide (([126]:List Nat)<[c]))))
     |.bl false=>R.ok (D.bl false)
     |_=>R.no:R D)=_;rw[yA,yA,dL,R.ok_bind];cases h1:decide (32<=c) <;> simp[h1]
   have e2:lv [.str x]=.ok (.bl (aX x)):=if_pos hx;rw[e2];show ak (ao _ oNx [some (.val (.str x))])=_;simp only[ao,cF,lA,ax,gOf,ac,cL,ib,rd0,jm,bI,R.ok_bind,List.map_nil];simp only[e];simp only[List.length_map,hx,if_true,R.ok_bind,qw,List.all_map];rfl
  ·exact Or.inl (if_neg hx)
noncomputable def IK:D->Bool
 |.exc _=>false
 |.dct _ _=>false
 |.str x=>decide (x.length<=sizeLine)
 |_=>true
noncomputable def Ak(d:D)(wd:Int):Bool:=match d with
 |.str x=>aX x && ((x.length:Int)==wd)
 |_=>false
noncomputable def ye(d:D)(wd:Int):Bool:=match d with
 |.tup xs=>decide (1<=xs.length) && decide (xs.length<=12) && xs.all λr=>Ak r wd
 |_=>false
noncomputable def zZ:List D->R D
 | [.exc _,_]=>.no
 | [.dct _ _,_]=>.no
 | [.tup xs,.int wd]=>if xs.all IK=true then .ok (.bl (ye (.tup xs) wd))else .no
 | [d,.int wd]=>.ok (.bl false)
 |_=>.no
def xx(h:IK d=true):lv [d]=.ok (.bl (NN d)):=by
 cases d <;> first|rfl|(cases h;done)|skip
 exact if_pos (of_decide_eq_true h)
noncomputable def df(bi:List D->R D):Ev->O:=(ao (oIf (vp (gBn (ax lG (ax (kX (·=="tuple")) (rvz 0)))) (gBn (gB3 leD leD (ciz 1) (gOf fD (ac (rvz 0) nlz)) (ciz 12)))) (ao (cF (λ_=>R.ok (D.bl false))) oNx) oNx) (ao (cF (gOf BR (ac (cL (ib (ax bI (rvz 0)) [1] (λ_=>R.ok true) (lA (az 1 bi (ac (rvz 0) nlz)) (g2 eqF (gOf fD (ac (rvz 0) nlz)) (rvz 1))))) nlz))) oNx))
def lr:∀ds:List D,ds.length=2->zZ ds=.no\/ak (df lv (aj 2 ds))=zZ ds:=by
 intro ds hl
 match ds,hl with
 | [d,l],_=>
  cases d <;> first|exact Or.inl rfl|skip
  all_goals (cases l <;> first|exact Or.inl rfl|exact Or.inr rfl|skip)
  rename_i xs wd hl;by_cases hf:xs.all IK=true
  ·refine Or.inr ?_;have e2:zZ [.tup xs,.int wd]=.ok (.bl (ye (.tup xs) wd)):=if_pos hf;rw[e2];have e:gW (λ_=>R.ok true) (lA (az 1 lv (ac (rvz 0) λx=>R.ok [])) (g2 eqF (gOf fD (ac (rvz 0) λx=>R.ok [])) λρ=>rdV ρ 1)) xs [none,some (.val (.int wd))]=.ok (xs.map λd=>.bl (Ak d wd)):=by
    refine nN _ [some (.val (.int wd))] xs none λd m=>⟨rfl,?_⟩
    have hd:=List.all_eq_true.1 hf d m;simp only[lA,az,ac,rd0,R.ok_bind,xx hd];cases d <;> first|rfl|skip
    rename_i x;show(if aX x=true then R.ok (D.bl ((x.length:Int)==wd))else R.ok (.bl false))=R.ok (.bl (aX x && ((x.length:Int)==wd)));cases aX x <;> rfl
   show ak (ao _ _ [some (.val (.tup xs)),some (.val (.int wd))])=_;have i2:jm [1] [some (.val (.tup xs)),some (.val (.int wd))]=[none,some (.val (.int wd))]:=rfl;have t1:kX (λx=>x=="tuple") (.tup xs)=.ok (.bl true):=rfl;have t2:lG (.bl true)=.ok true:=rfl;have t3:fD [.tup xs]=some (.int xs.length):=rfl;simp only[ao,oIf,vp,gBn,ax,gB3,g3,cF,gOf,ac,rd0,R.ok_bind,t1,t2,t3,leD];by_cases h1:1<=xs.length
   ·have h1':(1:Int)<=(xs.length:Int):=by omega
    by_cases h2:xs.length<=12
    ·have h2':(xs.length:Int)<=12:=by omega
     have h3:xs.length<=sizeLine:=Nat.le_trans h2 (by decide);simp[h1,h1',h2,h2',asB,oNx,ak,ye];simp only[ao,cF,gOf,ac,cL,ib,ax,rd0,R.ok_bind,bI,i2,e,List.length_map,h3,if_true,qw,dL,R.ok_out,O.seq]
    ·have h2' : ¬ (xs.length:Int)<=12:=by omega
     simp[h1',h2,h2',asB,O.seq,ak,ye]
   ·have h1' : ¬ (1:Int)<=(xs.length:Int):=by omega
    simp[h1,h1',asB,O.seq,ak,ye]
  ·exact Or.inl (if_neg hf)
noncomputable def sR(d:D)(wd m:Int):Bool:=match d with
 |.tup [a,b]=>inB a 0 (m - 1) && inB b 0 wd
 |_=>false
noncomputable def Az:D->Bool
 |.exc _=>false
 |.dct _ _=>false
 |_=>true
noncomputable def oP:List D->R D
 | [.exc _,_,_]=>.no
 | [.dct _ _,_,_]=>.no
 | [.tup xs,.int wd,.int m]=>if xs.all Az=true then .ok (.bl (sR (.tup xs) wd m))else .no
 | [d,.int wd,.int m]=>.ok (.bl false)
 |_=>.no
def kB{lo hi:Int}(h:Az d=true):Be [d,.int lo,.int hi]=.ok (.bl (inB d lo hi)):=by cases d <;> first|rfl|(cases h;done)
noncomputable def ig(aM:List D->R D):Ev->O:=(ao (oIf (vp (gBn (ax lG (ax (kX (·=="tuple")) (rvz 0)))) (gB2 neF (gOf fD (ac (rvz 0) nlz)) (ciz 2))) (ao (cF (λ_=>R.ok (D.bl false))) oNx) oNx) (ao (cF (lA (az 3 aM (ac (g2 ixD (rvz 0) (ciz 0)) (ac (ciz 0) (ac (g2 wB (rvz 2) (ciz 1)) nlz)))) (az 3 aM (ac (g2 ixD (rvz 0) (ciz 1)) (ac (ciz 0) (ac (rvz 1) nlz)))))) oNx))
def vo:∀ds:List D,ds.length=3->oP ds=.no\/ak (ig Be (aj 3 ds))=oP ds:=by
 intro ds hl
 match ds,hl with
 | [d,l,h],_=>
  cases d <;> first|exact Or.inl rfl|skip
  all_goals (cases l <;> first|exact Or.inl rfl|skip)
  all_goals (cases h <;> first|exact Or.inl rfl|exact Or.inr rfl|skip)
  rename_i xs wd m hl;by_cases hf:xs.all Az=true
  ·refine Or.inr ?_;have e2:oP [.tup xs,.int wd,.int m]=.ok (.bl (sR (.tup xs) wd m)):=if_pos hf;rw[e2]
   match xs,hf with
   | [],_=>rfl
   | [_],_=>rfl
   | [a,b],hf=>have ha:=List.all_eq_true.1 hf a (by simp);have hb:=List.all_eq_true.1 hf b (by simp);show ak ((lA (λ_=>Be [a,.int 0,.int (m - 1)]) (λ_=>Be [b,.int 0,.int wd]) []).out _ .rt |>.seq oNx)=_;rw[lA,kB ha,kB hb];show ak ((if inB a 0 (m - 1)=true then R.ok (D.bl (inB b 0 wd))else R.ok (D.bl false)).out _ .rt |>.seq oNx)=R.ok (D.bl (inB a 0 (m - 1) && inB b 0 wd));cases inB a 0 (m - 1) <;> rfl
   |a::b::c::l,_=>rfl
  ·exact Or.inl (if_neg hf)
noncomputable def sU:D->Bool
 |.exc _=>false
 |.dct _ _=>false
 |.tup [w,r,p]=>Az w && (match r with|.exc _=>false|.dct _ _=>false|.tup xs=>xs.all IK|_=>true) && (match p with|.exc _=>false|.dct _ _=>false|.tup xs=>xs.all Az|_=>true)
 |_=>true
noncomputable def screen:D->Bool
 |.tup [a,r,p]=>match a with
  |.int wd=>inB (.int wd) 1 40 && ye r wd && (match r with|.tup rows=>sR p wd rows.length|_=>false)
  |_=>false
 |_=>false
noncomputable def mH:List D->R D
 | [d]=>if sU d=true then .ok (.bl (screen d))else .no
 |_=>.no
noncomputable def gj(aM cq fP:List D->R D):Ev->O:=(ao (oIf (vp (gBn (ax lG (ax (kX (·=="tuple")) (rvz 0)))) (gB2 neF (gOf fD (ac (rvz 0) nlz)) (ciz 3))) (ao (cF (λ_=>R.ok (D.bl false))) oNx) oNx) (ao (eU 1 (g2 ixD (rvz 0) (ciz 0))) (ao (oIf (vp (gBn (ax lG (az 3 aM (ac (rvz 1) (ac (ciz 1) (ac (ciz 40) nlz)))))) (gBn (ax lG (az 2 cq (ac (g2 ixD (rvz 0) (ciz 1)) (ac (rvz 1) nlz)))))) (ao (cF (λ_=>R.ok (D.bl false))) oNx) oNx) (ao (cF (az 3 fP (ac (g2 ixD (rvz 0) (ciz 2)) (ac (rvz 1) (ac (gOf fD (ac (g2 ixD (rvz 0) (ciz 1)) nlz)) nlz))))) oNx))))
def rT:∀ds:List D,ds.length=1->mH ds=.no\/ak (gj Be zZ oP (aj 2 ds))=mH ds:=by
 intro ds hl
 match ds,hl with
 | [d],_=>
  cases d <;> first|exact Or.inl rfl|exact Or.inr rfl|skip
  rename_i xs hl
  match xs with
  | []=>exact Or.inr rfl
  | [_]=>exact Or.inr rfl
  | [_,_]=>exact Or.inr rfl
  |a::b::c::e::l=>refine Or.inr ?_;rfl
  | [a,r,p]=>
   by_cases hf:sU (.tup [a,r,p])=true
   ·refine Or.inr ?_;have e2:mH [.tup [a,r,p]]=.ok (.bl (screen (.tup [a,r,p]))):=if_pos hf;rw[e2];simp only[sU,Bool.and_eq_true]at hf;obtain⟨⟨ha,hr⟩,hp⟩:=hf;show ak (ao _ _ [some (.val (.tup [a,r,p])),none])=_;have t1:kX (λx=>x=="tuple") (.tup [a,r,p])=.ok (.bl true):=rfl;have t2:∀k,lG (.bl k)=.ok k:=λ_=>rfl;have t3:fD [.tup [a,r,p]]=some (.int 3):=rfl;have t4:neF (.int 3) (.int 3)=some (.bl false):=rfl;have x0:ixD (.tup [a,r,p]) (.int 0)=some a:=rfl;have x1:ixD (.tup [a,r,p]) (.int 1)=some r:=rfl;have x2:ixD (.tup [a,r,p]) (.int 2)=some p:=rfl;have s1:([some (.val (.tup [a,r,p])),none]:Ev).set 1 (some (.val a))=[some (.val (.tup [a,r,p])),some (.val a)]:=rfl;simp only[ao,oIf,eU,vp,gBn,ax,gB2,g2,gOf,ac,rd0,rd1,R.ok_bind,R.ok_out,t1,t2,t3,t4,x0,x1,s1,AA,zT,dL,asB,oNx,O.seq,Bool.not_true,Bool.false_eq_true,if_false,kB ha];cases hi:inB a 1 40 with
    |false=>
     have:screen (.tup [a,r,p])=false:=by
      cases a <;> first|rfl|skip
      simp only[screen,hi,Bool.false_and]
     rw[this];rfl
    |true=>
     cases a <;> first|(cases hi;done)|skip
     rename_i i;have e3:zZ [r,.int i]=.ok (.bl (ye r i)):=by cases r <;> first|rfl|(cases hr;done)|exact if_pos hr
     cases hq:ye r i with
     |false=>
      have:screen (.tup [.int i,r,p])=false:=by simp only[screen,hq,Bool.and_false,Bool.false_and]
      rw[e3,hq,this];rfl
     |true=>
      cases r <;> first|(cases hq;done)|skip
      rename_i rows;have e4:oP [p,.int i,.int rows.length]=.ok (.bl (sR p i rows.length)):=by cases p <;> first|rfl|(cases hp;done)|exact if_pos hp
      have e5:screen (.tup [.int i,.tup rows,p])=sR p i rows.length:=by simp only[screen,hi,hq,Bool.true_and]
      rw[e3,hq,e5];show ak ((oP [p,.int i,.int rows.length]).out _ .rt |>.seq _)=_;rw[e4];rfl
   ·exact Or.inl (if_neg hf)
noncomputable def pB:List D->Option (List Int)
 | []=>some []
 |.int i::ds=>(pB ds).map (i::·)
 |_=>none
theorem vF:∀{ds:List D}{ns:List Int},pB ds=some ns->ds=ns.map .int
 | [],ns,h=>by cases h;rfl
 |d::ds,ns,h=>by
  cases d <;> first|(cases h;done)|skip
  cases q:pB ds with
  |none=>simp[pB,q]at h
  |some ms=>simp[pB,q]at h;subst h;rw[vF q];rfl
theorem sW:∀ns:List Int,pB (ns.map .int)=some ns
 | []=>rfl
 |i::ns=>by simp[pB,sW ns]
noncomputable def cell(ns:List Int)(k:Nat):Int:=if k<ns.length then ns.getD k 0 else if ns.length=0 then 0 else ns.getD (k % ns.length) 0 * 31+k
def vH{ns:List Int}(h:k<ns.length):atI (ns.map D.int) (k:Int)=some (.int (ns.getD k 0)):=by
 have e:ixN (ns.map D.int).length (k:Int)=some k:=by
  simp[ixN]
  try omega
 rw[atI,e];simp[h]
def tfr{F:List D->R D}{n:Nat}:∀ds:List D,ds.length=n->F ds=.no\/F ds=F ds:=λ_ _=>.inr rfl
noncomputable def dn:Ev->O:=(ao (oIf (gB2 ltD (rvz 1) (gOf fD (ac (rvz 0) nlz))) (ao (cF (g2 ixD (rvz 0) (rvz 1))) oNx) oNx) (ao (oIf (gB2 eqF (rvz 0) (cL (tj nlz))) (ao (cF (ciz 0)) oNx) oNx) (ao (cF (g2 bJ (g2 gB (g2 ixD (rvz 0) (g2 zC (rvz 1) (gOf fD (ac (rvz 0) nlz)))) (ciz 31)) (rvz 1))) oNx)))
noncomputable def CG:List D->R D:=λds=>ak (dn (aj 2 ds))
def yp{ns:List Int}{n:Nat}:CG [.lst fz (ns.map .int),.int n]=.ok (.int (cell ns n)):=by
 show ak (dn [some (.val (.lst fz (ns.map .int))),some (.val (.int n))])=_;unfold dn;have t3:fD [.lst fz (ns.map .int)]=some (.int ns.length):=by simp[fD]
 by_cases h1:n<ns.length
 ·have h1':(n:Int)<(ns.length:Int):=by omega
  have x1:ixD (.lst fz (ns.map .int)) (.int n)=some (.int (ns.getD n 0)):=vH h1;simp only[ao,oIf,gB2,g2,cF,gOf,ac,rd0,rd1,R.ok_bind,R.ok_out,t3,x1,dL,ltD,asB,h1',decide_true,if_true,O.seq,ak,cell,h1]
 ·have h1' : ¬ (n:Int)<(ns.length:Int):=by omega
  cases ns with
  |nil=>rfl
  |cons a as=>
   have t4:eqF (.lst fz ((a::as).map .int)) (.lst false [])=some (.bl false):=rfl;have h2:n % (a::as).length<(a::as).length:=Nat.mod_lt _ (by simp);have x1:ixD (.lst fz ((a::as).map .int)) (.int ((n % (a::as).length:Nat):Int))=some (.int ((a::as).getD (n % (a::as).length) 0)):=vH h2;have m1:zC (.int n) (.int (a::as).length)=some (.int ((n % (a::as).length:Nat):Int)):=by
    have:(0:Int)<((a::as).length:Int):=by simp
    simp only[zC,this,if_true];rw[Int.natCast_emod]
   have m2:∀z:Int,gB (.int z) (.int 31)=some (.int (z * 31)):=λz=>if_pos (Or.inr (by decide));have z1:(0:Nat)<=sizeLine:=Nat.zero_le _;have z2 : ¬ (a::as).length=0:=by simp
   simp only[ao,oIf,gB2,g2,cF,gOf,ac,cL,tj,rd0,rd1,R.ok_bind,R.ok_out,t3,t4,x1,m1,m2,dL,ltD,bJ,asB,h1',decide_false,Bool.false_eq_true,if_false,O.seq,oNx,ak,cell,h1,List.length_nil,z1,if_true,z2]
noncomputable def drawn(ns:List Int)(k:Nat):Int:=(cell ns k+6151 * ((k:Int)+1)) * 40692 % 2147483399
noncomputable def dh(ns:List Int)(k:Nat)(m:Int):Int:=(drawn ns k * drawn ns k+drawn ns k / 31) % 2147483629 % m
def bw(ns:List Int)(k:Nat){m:Int}(h:0<m):0<=dh ns k m/\dh ns k m<m:=⟨Int.emod_nonneg _ (by omega),Int.emod_lt_of_pos _ h⟩
noncomputable def dm(eG:List D->R D):Ev->O:=(ao (eU 3 (g2 zC (g2 gB (g2 bJ (az 2 eG (ac (rvz 0) (ac (rvz 1) nlz))) (g2 gB (ciz 6151) (g2 bJ (rvz 1) (ciz 1)))) (ciz 40692)) (ciz 2147483399))) (ao (cF (g2 zC (g2 zC (g2 bJ (g2 gB (rvz 3) (rvz 3)) (g2 Ch (rvz 3) (ciz 31))) (ciz 2147483629)) (rvz 2))) oNx))
noncomputable def fu:List D->R D:=λds=>ak (dm CG (aj 4 ds))
def cj{ns:List Int}{n:Nat}{m:Int}(hm:0<m):fu [.lst fz (ns.map .int),.int n,.int m]=.ok (.int (dh ns n m)):=by
 show ak (dm CG [some (.val (.lst fz (ns.map .int))),some (.val (.int n)),some (.val (.int m)),none])=_;unfold dm;have m1:∀z:Int,gB (.int 6151) (.int z)=some (.int (6151 * z)):=λz=>by show(if ((-(2 ^ 64):Int)<6151/\(6151:Int)<2 ^ 64)\/((-(2 ^ 64):Int)<z/\z<2 ^ 64)then some (D.int (6151 * z))else none)=_;exact if_pos (Or.inl (by decide))
 have m2:∀z:Int,gB (.int z) (.int 40692)=some (.int (z * 40692)):=λz=>if_pos (Or.inr (by decide));have m3:∀z:Int,zC (.int z) (.int 2147483399)=some (.int (z % 2147483399)):=λz=>by show(if (0:Int)<2147483399 then some (D.int (z % 2147483399))else none)=_;exact if_pos (by decide)
 have m4:∀z:Int,zC (.int z) (.int 2147483629)=some (.int (z % 2147483629)):=λz=>by show(if (0:Int)<2147483629 then some (D.int (z % 2147483629))else none)=_;exact if_pos (by decide)
 have m5:∀z:Int,zC (.int z) (.int m)=some (.int (z % m)):=λz=>if_pos hm;have m6:∀z:Int,Ch (.int z) (.int 31)=some (.int (z / 31)):=λz=>by show(if (0:Int)<31/\(31:Int)<1073741824 then some (D.int (z / 31))else none)=_;exact if_pos (by decide)
 have m7:∀i j:Int,bJ (.int i) (.int j)=some (.int (i+j)):=λ_ _=>rfl;have hd:0<=drawn ns n/\drawn ns n<2147483399:=⟨Int.emod_nonneg _ (by decide),Int.emod_lt_of_pos _ (by decide)⟩
 have m8:gB (.int (drawn ns n)) (.int (drawn ns n))=some (.int (drawn ns n * drawn ns n)):=if_pos (Or.inl (by omega));have s1:∀v,([some (.val (.lst fz (ns.map .int))),some (.val (.int n)),some (.val (.int m)),none]:Ev).set 3 v=[some (.val (.lst fz (ns.map .int))),some (.val (.int n)),some (.val (.int m)),v]:=λ_=>rfl;have q1:(cell ns n+6151 * ((n:Int)+1)) * 40692 % 2147483399=drawn ns n:=rfl;simp only[ao,eU,cF,g2,AA,rd0,rd1,rd2,rd3,R.ok_bind,R.ok_out,yp,m1,m2,m3,m4,m5,m6,m7,dL,O.seq,s1,q1,m8,ak,dh]
noncomputable def jd(C:Addr):List D->R D
 | [d]=>if sU d=true then (if screen d=true then .ok .non else .ex C)else .no
 |_=>.no
noncomputable def dB(eD:List D->R D)(bC:Addr):Ev->O:=(ao (oIf (gBn (ax lG (az 1 eD (ac (rvz 0) nlz)))) (ao (lh bC (ac (csz [116,104,105,115,32,105,115,32,110,111,32,115,99,114,101,101,110]) nlz)) oNx) oNx) oNx)
def lX:∀ds:List D,ds.length=1->jd C ds=.no\/ak (dB mH C (aj 1 ds))=jd C ds:=by
 intro ds hl
 match ds,hl with
 | [d],_=>
  by_cases hf:sU d=true;·refine Or.inr ?_;have e1:mH [d]=.ok (.bl (screen d)):=if_pos hf;have e2:jd C [d]=if screen d=true then .ok .non else .ex C:=if_pos hf;rw[e2];show ak (ao _ _ [some (.val d)])=_;have t2:∀k,lG (.bl k)=.ok k:=λ_=>rfl;simp only[ao,oIf,gBn,ax,D6,rd0,R.ok_bind,e1];cases screen d <;> rfl
  ·exact Or.inl (if_neg hf)
def GX{α:Type}(n:Nat)(x:α):(List.replicate n [x]).flatten=List.replicate n x:=by
 induction n with
 |zero=>rfl
 |succ n ih=>rw[List.replicate_succ,List.flatten_cons,ih];rfl
noncomputable def sgn(ns:List Int)(k:Nat):Nat:=([32,32,97,98,35]:List Nat).getD (dh ns k 5).toNat 0
def Hm(ns:List Int)(k:Nat):ixD (.str [32,32,97,98,35]) (.int (dh ns k 5))=some (.str [sgn ns k]):=by
 have h:=bw ns k (m:=5) (by decide);unfold sgn;generalize dh ns k 5=v at h;have:v=0\/v=1\/v=2\/v=3\/v=4:=by omega
 rcases this with rfl|rfl|rfl|rfl|rfl <;> rfl
def yT(ns:List Int)(k:Nat):32<=sgn ns k/\sgn ns k<=126:=by
 have h:=bw ns k (m:=5) (by decide);unfold sgn;generalize dh ns k 5=v at h;have:v=0\/v=1\/v=2\/v=3\/v=4:=by omega
 rcases this with rfl|rfl|rfl|rfl|rfl <;> decide
noncomputable def Dv:Ev->O:=ao (eU 3 (g2 bJ (rvz 3) (g2 ixD (λx=>R.ok (D.str [32,32,97,98,35])) (az 3 fu (ac (rvz 0) (ac (g2 bJ (g2 bJ (rvz 1) λx=>R.ok (D.int 1)) λρ=>rdV ρ 4) (ac (λx=>R.ok (D.int 5)) λx=>R.ok []))))))) oNx
theorem vw(ns:List Int)(fz:Bool)(a:Nat)(W:Option Sl):∀(ks:List Nat)(x:List Nat)(kk:Option Sl),x.length+ks.length<=sizeLine->
  ∃kk',cg (la 4) Dv (ks.map λi=>D.int (0+(i:Nat))) [some (.val (.lst fz (ns.map .int))),some (.val (.int a)),W,some (.val (.str x)),kk,none]=.nx [some (.val (.lst fz (ns.map .int))),some (.val (.int a)),W,some (.val (.str (x++ks.map λk=>sgn ns (a+1+k)))),kk',none]
 | [],x,kk,_=>⟨kk,by simp[cg]⟩
 |k::ks,x,kk,h=>by
  have h':(x++[sgn ns (a+1+k)]).length+ks.length<=sizeLine:=by simp at h⊢;omega
  obtain⟨kk',ih⟩:=vw ns fz a W ks (x++[sgn ns (a+1+k)]) (some (.val (.int (0+(k:Nat))))) h';refine⟨kk',?_⟩;have hx:x.length+1<=sizeLine:=by simp at h;omega
  have c1:((a:Int)+1+(0+(k:Int)))=((a+1+k:Nat):Int):=by omega
  have p5:∀n:Nat,fu [.lst fz (ns.map .int),.int n,.int 5]=.ok (.int (dh ns n 5)):=λn=>cj (by decide);have m7:∀i j:Int,bJ (.int i) (.int j)=some (.int (i+j)):=λ_ _=>rfl;have m8:bJ (.str x) (.str [sgn ns (a+1+k)])=some (.str (x++[sgn ns (a+1+k)])):=if_pos hx;have hB:Dv [some (.val (.lst fz (ns.map .int))),some (.val (.int a)),W,some (.val (.str x)),some (.val (.int (0+(k:Nat)))),none]=.nx [some (.val (.lst fz (ns.map .int))),some (.val (.int a)),W,some (.val (.str (x++[sgn ns (a+1+k)]))),some (.val (.int (0+(k:Nat)))),none]:=by simp only[Dv,ao,eU,g2,zT,rd0,rd1,rd3,rd4,R.ok_bind,m7,c1,p5,Hm,m8,dL];rfl
  show(match Dv [some (.val (.lst fz (ns.map .int))),some (.val (.int a)),W,some (.val (.str x)),some (.val (.int (0+(k:Nat)))),none]with
   |.nx ρ2=>cg (la 4) Dv _ ρ2
   |.ct ρ2=>cg (la 4) Dv _ ρ2
   |.bk ρ2=>O.nx ρ2
   |.rt d=>O.rt d
   |.re d ρ2=>.re d ρ2
   |.ex C ρ2=>O.ex C ρ2
   |.no=>O.no)=_;rw[hB];simp only[List.map_cons];rw[ih,List.append_assoc];rfl
def Ce{α:Type}(xs:List α)(l:Nat)(h:l<=xs.length):km xs none (some (l:Int))=xs.take l:=by
 have h1:HT.sIx xs.length 0 none=0:=rfl;have h2:HT.sIx xs.length xs.length (some (l:Int))=l:=by
  simp only[HT.sIx]
  first|omega|(split <;> omega)
 unfold km;rw[h1,h2];simp
noncomputable def xE(ns:List Int)(a wd:Nat):List Nat:=
 if dh ns (a+20) 2=0 then (List.range wd).map λk=>sgn ns (a+1+k)else ((List.range wd).map λk=>sgn ns (a+1+k)).take (dh ns a (wd+1)).toNat++List.replicate (wd - (dh ns a (wd+1)).toNat) 32
def nz(ns:List Int)(a wd:Nat):(xE ns a wd).length=wd:=by
 unfold xE;split;·simp
 ·simp;omega
def oV(ns:List Int)(a wd:Nat):aX (xE ns a wd)=true:=by
 have hm:∀c∈(List.range wd).map (λk=>sgn ns (a+1+k)),32<=c/\c<=126:=by intro c hc;obtain⟨k,_,rfl⟩:=List.mem_map.1 hc;exact yT ns _
 unfold aX;rw[List.all_eq_true];intro c hc;have:32<=c/\c<=126:=by
  unfold xE at hc;split at hc;·exact hm c hc
  ·rcases List.mem_append.1 hc with q|q;·exact hm c (List.mem_of_mem_take q)
   ·have:=(List.mem_replicate.1 q).2;omega
 simp[this.1,this.2]
def A4{wd:Nat}(h:wd<=100):cI [.int (wd:Int)]=.ok ((List.range wd).map λi=>D.int (0+(i:Nat))):=by
 have e:cI [.int (wd:Int)]=if -(2 ^ 62)<=(wd:Int)/\(wd:Int)<2 ^ 62 then .ok ((List.range (wd:Int).toNat).map λi=>D.int (0+(i:Nat)))else .no:=by simp only[cI]
 rw[e,if_pos (by constructor <;> omega),Int.toNat_natCast]
def LL{ns:List Int}{a:Nat}:fu [.lst fz (ns.map .int),.int ((a+20:Nat):Int),.int 2]=.ok (.int (dh ns (a+20) 2)):=cj (by decide)
noncomputable def K2(pk:List D->R D):Ev->O:=ao (eU 5 (az 3 pk (ac (rvz 0) (ac (rvz 1) (ac (g2 bJ (rvz 2) λx=>R.ok (D.int 1)) λx=>R.ok [])))))
 (ao (cF (gIf (gB2 eqF (az 3 pk (ac (rvz 0) (ac (g2 bJ (rvz 1) λx=>R.ok (D.int 20)) (ac (λx=>R.ok (D.int 2)) λx=>R.ok [])))) λx=>R.ok (D.int 0)) (rvz 3)
  (g2 bJ (gSl (rvz 3) (λx=>R.ok none) (fK λρ=>rdV ρ 5)) (g2 gB (λx=>R.ok (D.str [32])) (g2 wB (rvz 2) λρ=>rdV ρ 5))))) oNx)
def zv{n:Nat}(h:n<=100):gB (.str [32]) (.int (n:Int))=some (.str (List.replicate n 32)):=by
 have hz:(100:Nat)<=sizeLine:=by decide
 have e:[32]=[32]:=rfl;rw[e,<- GX n 32];simp only[gB];rw[if_pos (by refine⟨by omega,by omega,?_⟩;simp;omega),Int.toNat_natCast]
def Gb(pk:List D->R D)(S:D)(a wd l:Nat)(z:Int)(x:List Nat)(kk:Option Sl)(h1:pk [S,.int a,.int ((wd:Int)+1)]=.ok (.int (l:Int)))(h2:pk [S,.int ((a:Int)+20),.int 2]=.ok (.int z))(hx:x.length=wd)(hw:wd<=100)(hl:l<=wd):
  K2 pk [some (.val S),some (.val (.int a)),some (.val (.int wd)),some (.val (.str x)),kk,none]=.rt (.str (if z=0 then x else x.take l++List.replicate (wd - l) 32)):=by
 have c1:(wd:Int) - (l:Int)=((wd - l:Nat):Int):=by omega
 have m1:gB (.str [32]) (.int ((wd - l:Nat):Int))=some (.str (List.replicate (wd - l) 32)):=zv (by omega);have m2:bJ (.str (x.take l)) (.str (List.replicate (wd - l) 32))=some (.str (x.take l++List.replicate (wd - l) 32)):=um (by have:=bo;simp;omega);have m3:=Aa x l;unfold K2
 walk_at "run"
 by_cases hz:z=0;·simp only[hz,if_true,beq_self_eq_true,R.ok_out,LR]
 ·have:(z==0)=false:=by simp[hz]
  simp only[hz,this,if_false,Bool.false_eq_true,R.ok_out,LR]
noncomputable def xK(aq:List D->R D):Ev->O:=(ao (eU 3 (g2 bJ (rvz 3) (g2 ixD (csz [32,32,97,98,35]) (az 3 aq (ac (rvz 0) (ac (g2 bJ (g2 bJ (rvz 1) (ciz 1)) (rvz 4)) (ac (ciz 5) nlz))))))) oNx)
noncomputable def jv(aq:List D->R D):Ev->O:=(ao (eU 3 (csz [])) (ao (oN (la 4) (ax cI (ac (rvz 2) nlz)) (xK aq)) (ao (eU 5 (az 3 aq (ac (rvz 0) (ac (rvz 1) (ac (g2 bJ (rvz 2) (ciz 1)) nlz))))) (ao (cF (gIf (gB2 eqF (az 3 aq (ac (rvz 0) (ac (g2 bJ (rvz 1) (ciz 20)) (ac (ciz 2) nlz)))) (ciz 0)) (rvz 3) (g2 bJ (gSl (rvz 3) (λ_=>R.ok none) (fK (rvz 5))) (g2 gB (csz [32]) (g2 wB (rvz 2) (rvz 5)))))) oNx))))
noncomputable def DI:List D->R D:=λds=>ak (jv fu (aj 6 ds))
def vX{ns:List Int}{a wd:Nat}(hw3:wd<=100):DI [.lst fz (ns.map .int),.int (a:Int),.int (wd:Int)]=.ok (.str (xE ns a wd)):=by
 show ak (ao (eU 3 (csz [])) (ao (oN (la 4) (ax cI (ac (rvz 2) λ_=>R.ok [])) Dv) (K2 fu)) [some (.val (.lst fz (ns.map .int))),some (.val (.int a)),some (.val (.int wd)),none,none,none])=_;obtain⟨kk',hL⟩:=vw ns fz a (some (.val (.int wd))) (List.range wd) [] none (by have:=bo;simp;omega);have s2:oN (la 4) (ax cI (ac (rvz 2) λ_=>R.ok [])) Dv [some (.val (.lst fz (ns.map .int))),some (.val (.int a)),some (.val (.int wd)),some (.val (.str [])),none,none]=.nx [some (.val (.lst fz (ns.map .int))),some (.val (.int a)),some (.val (.int wd)),some (.val (.str ([]++(List.range wd).map λk=>sgn ns (a+1+k)))),kk',none]:=by rw[Ie,D3,sJ,show ∀i ρ,rvz i ρ=rdV ρ i from λ_ _=>rfl,rd2,R.ok_bind,R.ok_bind,R.ok_bind,A4 hw3,R.ok_out];exact hL
 have hp:=bw ns a (m:=(wd:Int)+1) (by omega);have s3:=Gb fu (.lst fz (ns.map .int)) a wd (dh ns a ((wd:Int)+1)).toNat (dh ns (a+20) 2) ([]++(List.range wd).map λk=>sgn ns (a+1+k)) kk'
  (by rw[Int.toNat_of_nonneg hp.1];exact cj (by omega)) (by exact LL) (by simp) hw3 (by omega);rw[Ge,Kn,R.ok_out,xZ,Ge];show ak ((oN (la 4) _ Dv [some (.val (.lst fz (ns.map .int))),some (.val (.int a)),some (.val (.int wd)),some (.val (.str [])),none,none]).seq _)=_;rw[s2,xZ,s3,MX];unfold xE;rw[List.nil_append]
noncomputable def xD(ns:List Int)(a wd m:Nat):List D:=(List.range m).map λk=>.str (xE ns (a+30 * k) wd)
noncomputable def Nt(ns:List Int)(a wd m:Nat):D:=.tup [.int wd,.tup (xD ns a wd m),.tup [.int (dh ns (a+400) m),.int (dh ns (a+401) (wd+1))]]
noncomputable def fy(bD aq:List D->R D):Ev->O:=(ao (eU 4 (gOf jR (ac (cL (ib (ax cI (ac (rvz 3) nlz)) [0,1,2] (λ_=>R.ok true) (az 3 bD (ac (rvz 1) (ac (g2 bJ (rvz 2) (g2 gB (ciz 30) (rvz 0))) (ac (rvz 3) nlz)))))) nlz))) (ao (cF (ax mkT (ac (rvz 2) (ac (rvz 4) (ac (ax mkT (ac (az 3 aq (ac (rvz 0) (ac (g2 bJ (rvz 1) (ciz 400)) (ac (rvz 3) nlz)))) (ac (az 3 aq (ac (rvz 0) (ac (g2 bJ (rvz 1) (ciz 401)) (ac (g2 bJ (rvz 2) (ciz 1)) nlz)))) nlz))) nlz))))) oNx))
noncomputable def BZ:List D->R D:=λds=>ak (fy DI fu (aj 5 ds))
def yL{ns:List Int}{a wd m:Nat}(hw3:wd<=100)(hm:0<m)(hm3:m<=100):BZ [.lst fz (ns.map .int),.int (a:Int),.int (wd:Int),.int (m:Int)]=.ok (Nt ns a wd m):=by
 have e:gW (λ_=>R.ok true) (az 3 DI (ac (rvz 1) (ac (g2 bJ (rvz 2) (g2 gB (ciz 30) λρ=>rdV ρ 0)) (ac (rvz 3) λ_=>R.ok []))))
   ((List.range m).map λ(i:Nat)=>D.int (i:Int)) [none,some (.val (.lst fz (ns.map .int))),some (.val (.int a)),some (.val (.int wd))]=.ok (((List.range m).map λ(i:Nat)=>D.int (i:Int)).map λd=>match d with|.int k=>.str (xE ns (a+30 * k.toNat) wd)|d=>d):=by
  refine nN _ _ _ none λd hd=>⟨rfl,?_⟩
  obtain⟨k,_,rfl⟩:=List.mem_map.1 hd;have m1:gB (.int 30) (.int (k:Int))=some (.int ((30 * k:Nat):Int)):=by rw[DB (by decide)];congr 2
  have m2:(a:Int)+((30 * k:Nat):Int)=((a+30 * k:Nat):Int):=by omega
  have m3:=vX (fz:=fz) (ns:=ns) (a:=a+30 * k) hw3
  walk_at "run"
  simp only[Int.toNat_natCast]
 show ak (ao _ _ [some (.val (.lst fz (ns.map .int))),some (.val (.int a)),some (.val (.int wd)),some (.val (.int m)),none])=_;have i1:jm [0,1,2] [some (.val (.lst fz (ns.map .int))),some (.val (.int a)),some (.val (.int wd)),some (.val (.int m)),none]=[none,some (.val (.lst fz (ns.map .int))),some (.val (.int a)),some (.val (.int wd))]:=rfl;have r1:cI [.int (m:Int)]=.ok ((List.range m).map λ(i:Nat)=>D.int (i:Int)):=wq (by omega);have z1:(((List.range m).map λ(i:Nat)=>D.int (i:Int)).map λd=>match d with|.int k=>.str (xE ns (a+30 * k.toNat) wd)|d=>d)=xD ns a wd m:=by rw[List.map_map];unfold xD;refine List.map_congr_left λk _=>?_;simp
 have z2:(xD ns a wd m).length<=sizeLine:=by have:=bo;unfold xD;simp;omega
 have p1:fu [.lst fz (ns.map .int),.int ((a:Int)+400),.int (m:Int)]=.ok (.int (dh ns (a+400) m)):=by have:=cj (fz:=fz) (ns:=ns) (n:=a+400) (m:=m) (by omega);exact this
 have p2:fu [.lst fz (ns.map .int),.int ((a:Int)+401),.int ((wd:Int)+1)]=.ok (.int (dh ns (a+401) (wd+1))):=by have:=cj (fz:=fz) (ns:=ns) (n:=a+401) (m:=(wd:Int)+1) (by omega);exact this
 have k1:∀x:List D,jR [.lst false x]=some (.tup x):=λ_=>rfl
 walk_at "run"
 rfl
noncomputable def cl:Nat->D->Bool
 | 0,_=>false
 |_+1,.exc _=>false
 |_+1,.dct _ _=>false
 |n+1,.tup xs=>xs.all (cl n)
 |n+1,.lst _ xs=>xs.all (cl n)
 |_+1,_=>true
theorem qq{f:D->D->Option Bool}:∀xs:List D,(∀x∈xs,f x x=some true)->eqZ f xs xs=some (xs.map λ_=>true)
 | [],_=>rfl
 |x::xs,h=>by rw[eqZ,h x (List.mem_cons_self ..),qq xs λy hy=>h y (List.mem_cons_of_mem _ hy)];rfl
theorem qJ{α:Type}:∀xs:List α,(xs.map λ_=>true).all id=true
 | []=>rfl
 |_::xs=>by rw[List.map_cons,List.all_cons,qJ xs];rfl
theorem lF:∀(n m:Nat)(d:D),n<=m->cl n d=true->eqD m d d=some true
 | 0,_,_,_,h=>by simp[cl]at h
 |n+1,0,_,h,_=>by omega
 |n+1,m+1,d,hm,h=>by
  cases d <;> first|(simp[cl]at h;done)|(simp[eqD];done)|skip
  ·rename_i xs;simp only[cl,List.all_eq_true]at h;have:=qq xs λx hx=>lF n m x (by omega) (h x hx);simp only[eqD,this,Option.map_some,qJ,beq_self_eq_true,Bool.and_true]
  ·rename_i fz xs;simp only[cl,List.all_eq_true]at h;have:=qq xs λx hx=>lF n m x (by omega) (h x hx);simp only[eqD,if_true,this,Option.map_some,qJ]
def yS(h:cl 10 d=true):neF d d=some (.bl false):=by unfold neF;rw[lF 10 40 d (by omega) h];rfl
def C3(h:cl 10 d=true):eqF d d=some (.bl true):=by unfold eqF;rw[lF 10 40 d (by omega) h];rfl
noncomputable def MT:List Nat->D->D->Option D
 | [],_,v=>some v
 |k::ks,.tup xs,v=>match xs[k]? with
  |some x=>if xs.length<=1000 then (MT ks x v).map λy=>.tup (xs.take k++[y]++xs.drop (k+1))else none
  |none=>none
 |_,_,_=>none
noncomputable def JN:List D->Option (List Nat)
 | []=>some []
 |.int i::ds=>if 0<=i then (JN ds).map (i.toNat::·)else none
 |_::_=>none
noncomputable def pT(n:Nat):List D->R D
 | [d,.tup p,v]=>match JN p with
  |some ks=>if ks.length<n/\n<=500 then ofO (MT ks d v)else .no
  |none=>.no
 |_=>.no
noncomputable def pt:Nat->D->Bool
 | 0,_=>false
 |_+1,.int _=>true
 |_+1,.str x=>decide (x.length<=900)
 |n+1,.tup xs=>xs.all (pt n) && decide (xs.length<=900)
 |_+1,_=>false
noncomputable def Ng:Nat->D->Bool
 | 0,_=>true
 |_+1,.exc _=>false
 |_+1,.dct _ _=>false
 |_+1,.str x=>decide (x.length<=1000)
 |n+1,.tup xs=>xs.all (Ng n)
 |n+1,.lst _ xs=>xs.all (Ng n)
 |_+1,_=>true
noncomputable def kE(bi:List D->R D):Ev->O:=(ao (cF (lA (g2 eqF (gOf fD (ac (rvz 0) nlz)) (ciz 2)) (lA (g2 eqF (g2 ixD (rvz 0) (ciz 0)) (csz [115,97,121])) (lA (az 1 bi (ac (g2 ixD (rvz 0) (ciz 1)) nlz)) (g3 leD leD (ciz 1) (gOf fD (ac (g2 ixD (rvz 0) (ciz 1)) nlz)) (ciz 40)))))) oNx)
noncomputable def nL(aM:List D->R D):Ev->O:=(ao (oIf (vp (gB2 neF (gOf fD (ac (rvz 0) nlz)) (ciz 3)) (gB2 neF (g2 ixD (rvz 0) (ciz 0)) (csz [103,111]))) (ao (cF (λ_=>R.ok (D.bl false))) oNx) oNx) (ao (cF (lA (az 3 aM (ac (g2 ixD (rvz 0) (ciz 1)) (ac (ciz 0) (ac (g2 wB (ciz 12) (ciz 1)) nlz)))) (az 3 aM (ac (g2 ixD (rvz 0) (ciz 2)) (ac (ciz 0) (ac (ciz 40) nlz)))))) oNx))
noncomputable def ie(jV mE:List D->R D):Ev->O:=(ao (oIf (gBn (ax lG (ax (kX (·=="tuple")) (rvz 0)))) (ao (cF (λ_=>R.ok (D.bl false))) oNx) oNx) (ao (cF (gOr (az 1 jV (ac (rvz 0) nlz)) (gOr (az 1 mE (ac (rvz 0) nlz)) (g2 eqF (rvz 0) (ax mkT (ac (csz [119,105,112,101]) nlz)))))) oNx))
noncomputable def dZ(fN:List D->R D)(bH:Addr):Ev->O:=(ao (oIf (gBn (ax lG (az 1 fN (ac (rvz 0) nlz)))) (ao (lh bH (ac (csz [116,104,105,115,32,105,115,32,110,111,32,111,114,100,101,114]) nlz)) oNx) oNx) oNx)
noncomputable def cz:Ev->O:=(ao (eU 3 (g2 ixD (g2 ixD (rvz 0) (ciz 2)) (ciz 0))) (ao (eU 4 (g2 bJ (g2 bJ (gSl (g2 ixD (rvz 0) (ciz 1)) (λ_=>R.ok none) (fK (rvz 3))) (ax mkT (ac (rvz 1) nlz))) (gSl (g2 ixD (rvz 0) (ciz 1)) (fK (g2 bJ (rvz 3) (ciz 1))) (λ_=>R.ok none)))) (ao (cF (ax mkT (ac (g2 ixD (rvz 0) (ciz 0)) (ac (rvz 4) (ac (ax mkT (ac (rvz 3) (ac (rvz 2) nlz))) nlz))))) oNx)))
noncomputable def gK(aE:List D->R D)(cM:Addr):Ev->O:=(ao (eU 2 (g2 ixD (g2 ixD (rvz 0) (ciz 1)) (g2 ixD (g2 ixD (rvz 0) (ciz 2)) (ciz 0)))) (ao (eU 3 (g2 ixD (g2 ixD (rvz 0) (ciz 2)) (ciz 1))) (ao (eU 4 (g2 bJ (rvz 3) (gOf fD (ac (rvz 1) nlz)))) (ao (oIf (gB2 gtD (rvz 4) (g2 ixD (rvz 0) (ciz 0))) (ao (lh cM (ac (csz [116,104,101,32,116,101,120,116,32,105,115,32,119,105,100,101,114,32,116,104,97,110,32,119,104,97,116,32,105,115,32,108,101,102,116,32,111,102,32,116,104,101,32,114,111,119]) nlz)) oNx) oNx) (ao (cF (az 3 aE (ac (rvz 0) (ac (g2 bJ (g2 bJ (gSl (rvz 2) (λ_=>R.ok none) (fK (rvz 3))) (rvz 1)) (gSl (rvz 2) (fK (rvz 4)) (λ_=>R.ok none))) (ac (rvz 4) nlz))))) oNx)))))
noncomputable def ip(cM:Addr):Ev->O:=(ao (oIf (vp (gB2 geD (rvz 1) (gOf fD (ac (g2 ixD (rvz 0) (ciz 1)) nlz))) (gB2 gtD (rvz 2) (g2 ixD (rvz 0) (ciz 0)))) (ao (lh cM (ac (csz [116,104,101,32,115,99,114,101,101,110,32,100,111,101,115,32,110,111,116,32,104,97,118,101,32,116,104,105,115,32,112,108,97,99,101]) nlz)) oNx) oNx) (ao (cF (ax mkT (ac (g2 ixD (rvz 0) (ciz 0)) (ac (g2 ixD (rvz 0) (ciz 1)) (ac (ax mkT (ac (rvz 1) (ac (rvz 2) nlz))) nlz))))) oNx))
noncomputable def fq(aE:List D->R D):Ev->O:=(ao (eU 1 (g2 ixD (g2 ixD (rvz 0) (ciz 1)) (g2 ixD (g2 ixD (rvz 0) (ciz 2)) (ciz 0)))) (ao (eU 2 (g2 ixD (g2 ixD (rvz 0) (ciz 2)) (ciz 1))) (ao (cF (az 3 aE (ac (rvz 0) (ac (va "str" jg (gSl (rvz 1) (λ_=>R.ok none) (fK (rvz 2))) (ac (g2 ixD (rvz 0) (ciz 0)) nlz)) (ac (rvz 2) nlz))))) oNx)))
noncomputable def eM(eF fL dt:List D->R D):Ev->O:=(ao (oIf (gB2 eqF (g2 ixD (rvz 1) (ciz 0)) (csz [115,97,121])) (ao (cF (az 2 eF (ac (rvz 0) (ac (g2 ixD (rvz 1) (ciz 1)) nlz)))) oNx) oNx) (ao (oIf (gB2 eqF (g2 ixD (rvz 1) (ciz 0)) (csz [103,111])) (ao (cF (az 3 fL (ac (rvz 0) (ac (g2 ixD (rvz 1) (ciz 1)) (ac (g2 ixD (rvz 1) (ciz 2)) nlz))))) oNx) oNx) (ao (cF (az 1 dt (ac (rvz 0) nlz))) oNx)))
noncomputable def jL(aG aU cY:List D->R D):Ev->O:=(ao (nh (az 1 aG (ac (rvz 0) nlz))) (ao (nh (az 1 aU (ac (rvz 1) nlz))) (ao (cF (az 2 cY (ac (rvz 0) (ac (rvz 1) nlz)))) oNx)))
noncomputable def scr(wd:Nat)(rows:List (List Nat))(r c:Nat):D:=.tup [.int (wd:Int),.tup (rows.map .str),.tup [.int (r:Int),.int (c:Int)]]
structure SOk(wd:Nat)(rows:List (List Nat))(r c:Nat):Prop where
 w:wd<=100
 c:c<=wd
 r:r<rows.length
 m:rows.length<=100
 l:∀x∈rows,x.length=wd
def Cg(rows:List (List Nat))(r:Nat)(x:List Nat)(h:r<rows.length):(rows.map D.str).take r++[D.str x]++(rows.map D.str).drop (r+1)=(rows.set r x).map D.str:=by rw[List.set_eq_take_append_cons_drop,if_pos h];simp[List.map_take,List.map_drop]
noncomputable def dY(aU:List D->R D)(bH:Addr):Ev->O:=(ao (nh (az 1 aU (ac (rvz 1) nlz))) oNx)
noncomputable def dE(aU:List D->R D)(bH:Addr):Ev->O:=(ao (oIf (gBn (ax lG (ax (kX (·=="list")) (rvz 0)))) (ao (lh bH (ac (csz [116,104,105,115,32,105,115,32,110,111,32,108,105,115,116,32,111,102,32,111,114,100,101,114,115]) nlz)) oNx) oNx) (ao (oN (la 1) (ax bI (rvz 0)) (dY aU bH)) oNx))
noncomputable def fA:Ev->O:=(ao (oIf (gB2 eqF (g2 ixD (rvz 0) (ciz 0)) (csz [115,97,121])) (ao (cF (gOf fD (ac (g2 ixD (rvz 0) (ciz 1)) nlz))) oNx) oNx) (ao (oIf (gB2 eqF (g2 ixD (rvz 0) (ciz 0)) (csz [103,111])) (ao (cF (ciz 2)) oNx) oNx) (ao (cF (ciz 1)) oNx)))
noncomputable def qo(aO bc:List D->R D):Ev->O:=(ao (nh (az 1 aO (ac (rvz 0) nlz))) (ao (cF (gOf Hg (ac (cL (ib (ax bI (rvz 0)) [] (λ_=>R.ok true) (az 1 bc (ac (rvz 0) nlz)))) nlz))) oNx))
noncomputable def cV:Ev->O:=(ao (oIf (gB2 neF (g2 ixD (rvz 0) (ciz 0)) (g2 ixD (rvz 1) (ciz 0))) (ao (cF (λ_=>R.ok D.non)) oNx) oNx) (ao (oIf (gB2 neF (g2 ixD (rvz 0) (ciz 0)) (csz [115,97,121])) (ao (cF (rvz 1)) oNx) oNx) (ao (eU 2 (g2 bJ (g2 ixD (rvz 0) (ciz 1)) (g2 ixD (rvz 1) (ciz 1)))) (ao (cF (gIf (gB2 leD (gOf fD (ac (rvz 2) nlz)) (ciz 40)) (ax mkT (ac (csz [115,97,121]) (ac (rvz 2) nlz))) (λ_=>R.ok D.non))) oNx))))
noncomputable def eX(aO bp:List D->R D):Ev->O:=(ao (Bo 1 3 (gIf (gB2 gtD (gOf fD (ac (rvz 1) nlz)) (ciz 0)) (az 2 bp (ac (g2 ixD (rvz 1) (ax wZ (ciz 1))) (ac (rvz 2) nlz))) (λ_=>R.ok D.non))) (ao (oIf (gB2 isF (rvz 3) (λ_=>R.ok D.non)) (ao (JF 1 (rvz 2)) oNx) (ao (Ci 1 (ax wZ (ciz 1)) (rvz 3)) oNx)) oNx))
noncomputable def gm(aO bp:List D->R D):Ev->O:=(ao (nh (az 1 aO (ac (rvz 0) nlz))) (ao (zu 1 (tj nlz)) (ao (oN (la 2) (ax bI (rvz 0)) (eX aO bp)) (Bz 1 (ao (cF (rvz 1)) oNx)))))
inductive Od where
 |say (x:List Nat)
 |go (r c:Nat)
 |wipe
noncomputable def oD:Od->D
 |.say x=>.tup [.str [115,97,121],.str x]
 |.go r c=>.tup [.str [103,111],.int (r:Int),.int (c:Int)]
 |.wipe=>.tup [.str [119,105,112,101]]
noncomputable def okO:Od->Bool
 |.say x=>aX x && (decide (1<=x.length) && decide (x.length<=40))
 |.go r c=>decide (r<=11) && decide (c<=40)
 |.wipe=>true
noncomputable def bb:Od->Nat
 |.say x=>x.length
 |.go _ _=>2
 |.wipe=>1
noncomputable def fk:Od->Od->Option Od
 |.say x,.say y=>if x.length+y.length<=40 then some (.say (x++y))else none
 |.go _ _,.go r c=>some (.go r c)
 |.wipe,.wipe=>some .wipe
 |_,_=>none
noncomputable def qQ:Od->Nat
 |.say x=>x.length
 |_=>0
noncomputable def jD:Option Od->D
 |some o=>oD o
 |none=>.non
noncomputable def eA(acc:List Od)(o:Od):List Od:=match acc.getLast? with
 |none=>[o]
 |some l=>match fk l o with
  |some j=>acc.dropLast++[j]
  |none=>acc++[o]
def A3(o:Od):eA [] o=[o]:=rfl
def iQ{acc:List Od}{l o j:Od}(h:fk l o=some j):eA (acc++[l]) o=acc++[j]:=by simp[eA,h]
def jW{acc:List Od}{l o:Od}(h:fk l o=none):eA (acc++[l]) o=acc++[l]++[o]:=by simp[eA,h]
noncomputable def shO(os:List Od):List Od:=os.foldl eA []
def Bx(l:List Od):l=[]\/∃l' b,l=l'++[b]:=by
 rcases List.eq_nil_or_concat l with h|⟨l',b,h⟩;·exact .inl h
 ·exact .inr ⟨l',b,by rw[h,List.concat_eq_append]⟩
def Mr(o:Od):fl 10 (oD o)=true:=by cases o <;> rfl
noncomputable def JE(os:List Od):Nat:=(os.map qQ).sum
def CW{l o j:Od}(h:fk l o=some j):qQ j=qQ l+qQ o/\bb j<=bb l+bb o:=by
 cases l <;> cases o <;> simp[fk]at h;·obtain⟨_,rfl⟩:=h;simp[qQ,bb]
 ·subst h;simp[qQ,bb]
 ·subst h;simp[qQ,bb]
def vG(acc:List Od)(o:Od):JE (eA acc o)=JE acc+qQ o/\(eA acc o).length<=acc.length+1/\((eA acc o).map bb).sum<=(acc.map bb).sum+bb o:=by
 rcases Bx acc with rfl|⟨a,l,rfl⟩;·rw[A3];simp[JE]
 ·cases hj:fk l o with
  |none=>rw[jW hj];simp[JE,List.sum_append];omega
  |some j=>obtain⟨h1,h2⟩:=CW hj;rw[iQ hj];simp[JE,List.sum_append];omega
noncomputable def lg(ai:Addr)(aG:List D->R D):Ev->O:=(ao (nh (az 1 aG (ac (rvz 1) nlz))) (ao (Bb ai 0 0 (tj (ac (ax mkT (ac (csz [109,97,100,101]) (ac (rvz 1) (ac (ciz 0) nlz)))) nlz))) (ao (Bb ai 0 1 (tj nlz)) oNx)))
noncomputable def kh(ai:Addr):Ev->O:=(ao (cF (g2 ixD (vT ai 0 0 (ax wZ (ciz 1))) (ciz 1))) oNx)
noncomputable def jQ(ai:Addr):Ev->O:=(ao (cF (g2 ixD (vT ai 0 0 (ax wZ (ciz 1))) (ciz 2))) oNx)
noncomputable def iq(ai:Addr)(av:MF):Ev->O:=(ao (Fh ai 0 0 (ax mkT (ac (rvz 1) (ac (rvz 2) (ac (g2 bJ (bX ai 0 av) (rvz 3)) nlz))))) (ao (Bb ai 0 1 (tj nlz)) oNx))
noncomputable def oy(ai:Addr)(aA bG av:MF)(vA bc:List D->R D):Ev->O:=(ao (eU 2 (az 2 vA (ac (bX ai 0 aA) (ac (rvz 1) nlz)))) (ao (mJ ai 0 3 bG (ac (csz [100,111]) (ac (rvz 2) (ac (az 1 bc (ac (rvz 1) nlz)) nlz)))) (ao (B6 (bX ai 0 av)) oNx)))
def jy{m:Bool}{fs:List (Nat×Fd)}(h:ρ[i]?=some (some (.obj m C p fs))):qP C ρ i=.ok fs:=by unfold qP;rw[h];exact if_pos rfl
def kO{fs:List (Nat×Fd)}(h:ρ[i]?=some (some (.obj true C p fs))):rW C ρ i=.ok (p,fs):=by unfold rW;rw[h];exact if_pos rfl
noncomputable def eV:List Nat:=[109,97,100,101]
noncomputable def wDo:List Nat:=[100,111]
noncomputable def bK(sts tk:List D):List (Nat×Fd):=[(0,.own sts),(1,.own tk)]
noncomputable def st3(a b:D)(c:Int):D:=.tup [a,b,.int c]
noncomputable def Jy:List (Nat×Fd)->Option (List D×List D)
 | [(0,.own a),(1,.own b)]=>some (a,b)
 |_=>none
def GV{fs:List (Nat×Fd)}{a b:List D}(h:Jy fs=some (a,b)):fs=bK a b:=by
 unfold Jy at h;split at h;·cases h;rfl
 ·cases h
noncomputable def t3D:D->Option (D×D×Int)
 |.tup [a,b,.int c]=>some (a,b,c)
 |_=>none
def HL{a b:D}{c:Int}(h:t3D d=some (a,b,c)):d=st3 a b c:=by
 unfold t3D at h;split at h;·cases h;rfl
 ·cases h
noncomputable def xL(sts:List D):Option (D×D×Int):=sts.getLast?.bind t3D
def Cl{sts:List D}{a b:D}{c:Int}(h:xL sts=some (a,b,c)):∃l,sts=l++[st3 a b c]:=by
 unfold xL at h;cases q:sts.getLast? with
 |none=>rw[q]at h;cases h
 |some d=>rw[q]at h;have e:=HL h;subst e;exact List.getLast?_eq_some_iff.1 q
def yn(l:List D)(a b:D)(c:Int):xL (l++[st3 a b c])=some (a,b,c):=by unfold xL;rw[List.getLast?_concat];rfl
def yD(l:List D)(d:D):ixD (.lst false (l++[d])) (.int (-1))=some d:=by
 show atI (l++[d]) (-1)=some d;have e:ixN (l++[d]).length (-1)=some l.length:=by unfold ixN;simp;omega
 unfold atI;rw[e];simp
section
variable{Cs Co Cr Cb Cp:Addr}
noncomputable def ou(Cs:Addr):MF:=λfs ds=>match fs,ds with
 | [],[d]=>(match jd Cs [d]with
  |.ok _=>.ok .non (bK [st3 (.str eV) d 0] [])
  |.ex E=>.ex E
  |.no=>.no)
 |_,_=>.no
noncomputable def Bj(k:List D->List D->D->D->Int->List D->RM):MF:=λfs ds=>match Jy fs with
 |none=>.no
 |some (sts,tk)=>(match xL sts with
  |none=>.no
  |some (a,b,c)=>k sts tk a b c ds)
noncomputable def fb:MF:=Bj λ_ _ _ b _ ds=>match ds with
 | []=>.rd b
 |_=>.no
noncomputable def ff:MF:=Bj λ_ _ _ _ c ds=>match ds with
 | []=>.rd (.int c)
 |_=>.no
noncomputable def yJ:MF:=Bj λsts _ _ _ c ds=>match ds with
 | [a,b,.int p]=>if sts.length<1000 then .ok .non (bK (sts++[st3 a b (c+p)]) [])else .no
 |_=>.no
def dU(k:List D->List D->D->D->Int->List D->RM)(l tk:List D)(a b:D)(c:Int)(ds:List D):Bj k (bK (l++[st3 a b c]) tk) ds=k (l++[st3 a b c]) tk a b c ds:=by unfold Bj;have e:Jy (bK (l++[st3 a b c]) tk)=some (l++[st3 a b c],tk):=rfl;rw[e];dsimp only;rw[yn]
def mQ{n:Nat}{k:List D->List D->D->D->Int->List D->RM}(h:∀p l tk a b c ds,match k (l++[st3 a b c]) tk a b c ds with
 |.ok d fs'=>∃ρ',ρ'[0]?=some (some (.obj true Cp p fs'))/\(g (dl true Cp p (bK (l++[st3 a b c]) tk) n ds)=.re d ρ'\/(g (dl true Cp p (bK (l++[st3 a b c]) tk) n ds)=.nx ρ'/\d=.non))
 |.rd d=>g (dl false Cp p (bK (l++[st3 a b c]) tk) n ds)=.rt d
 |.ex E=>∃ρ',g (dl false Cp p (bK (l++[st3 a b c]) tk) n ds)=.ex E ρ'
 |.no=>True):dc Cp g n (Bj k):=by
 intro p fs ds;cases q:Jy fs with
 |none=>simp only[Bj,q]
 |some z=>
  obtain⟨sts,tk⟩:=z;have e:=GV q;subst e;cases q2:xL sts with
  |none=>simp only[Bj,q,q2]
  |some z2=>obtain⟨a,b,c⟩:=z2;obtain⟨l,rfl⟩:=Cl q2;have:=h p l tk a b c ds;rw[dU];exact this
def fl0(sts tk:List D):fldL (bK sts tk) 0=.ok sts:=rfl
def fl1(sts tk:List D):fldL (bK sts tk) 1=.ok tk:=rfl
def pk0(sts tk x:List D):jG 0 (.own x) (bK sts tk)=bK x tk:=rfl
def pk1(sts tk x:List D):jG 1 (.own x) (bK sts tk)=bK sts x:=rfl
def E8:dc Cp (kh Cp) 1 fb:=by
 refine mQ λp l tk a b c ds=>?_;cases ds with
 |cons _ _=>trivial
 |nil=>
  have l1:=yD l (st3 a b c);have f0:=fl0 (l++[st3 a b c]) tk;have o0:∀r,qP Cp (some (.obj false Cp p (bK (l++[st3 a b c]) tk))::r) 0=.ok (bK (l++[st3 a b c]) tk):=λr=>jy rfl;have ng1:wZ (.int 1)=.ok (.int (-1)):=rfl;have i1:ixD (st3 a b c) (.int 1)=some b:=rfl;show ao _ _ [some (.obj false Cp p (bK (l++[st3 a b c]) tk))]=_
  walk_at "run"
def EF:dc Cp (jQ Cp) 1 ff:=by
 refine mQ λp l tk a b c ds=>?_;cases ds with
 |cons _ _=>trivial
 |nil=>
  have l1:=yD l (st3 a b c);have f0:=fl0 (l++[st3 a b c]) tk;have o0:∀r,qP Cp (some (.obj false Cp p (bK (l++[st3 a b c]) tk))::r) 0=.ok (bK (l++[st3 a b c]) tk):=λr=>jy rfl;have ng1:wZ (.int 1)=.ok (.int (-1)):=rfl;have i1:ixD (st3 a b c) (.int 2)=some (.int c):=rfl;show ao _ _ [some (.obj false Cp p (bK (l++[st3 a b c]) tk))]=_
  walk_at "run"
def HH{l:List D}(h:(l++[d]).length<1000):(l++[d]).length<sizeLine:=Nat.lt_trans h (by decide)
def Hv:dc Cp (iq Cp ff) 4 yJ:=by
 refine mQ λp l tk a b c ds=>?_
 match ds with
 | []=>trivial
 | [_]=>trivial
 | [_,_]=>trivial
 |_::_::_::_::_=>simp
 | [x,y,z]=>
  cases z with
  |int pr=>
   dsimp only;by_cases hl:(l++[st3 a b c]).length<1000
   ·rw[if_pos hl];have f0:=fl0 (l++[st3 a b c]) tk;have lk:=HH hl;have s1:ff (bK (l++[st3 a b c]) tk) []=.rd (.int c):=dU _ l tk a b c [];have o0:∀r,qP Cp (some (.obj true Cp p (bK (l++[st3 a b c]) tk))::r) 0=.ok (bK (l++[st3 a b c]) tk):=λr=>jy rfl;have o1:∀r fs,rW Cp (some (.obj true Cp p fs)::r) 0=.ok (p,fs):=λr fs=>kO rfl;have mk3:∀x y z,mkT [x,y,z]=.ok (.tup [x,y,z]):=λ_ _ _=>rfl;have k0:=pk0 (l++[st3 a b c]) tk;have k1:=pk1 (l++[st3 a b c]++[st3 x y (c+pr)]) tk;have w:(bK (l++[st3 a b c]++[st3 x y (c+pr)]) tk).length<900:=by show 2<900;decide
    have e3:D.tup [x,y,D.int (c+pr)]=st3 x y (c+pr):=rfl;have z0:0<=sizeLine:=by decide
    refine⟨[some (.obj true Cp p (bK (l++[st3 a b c]++[st3 x y (c+pr)]) [])),some (.val x),some (.val y),some (.val (.int pr))],rfl,.inr ⟨?_,rfl⟩⟩;show ao _ _ [some (.obj true Cp p (bK (l++[st3 a b c]) tk)),some (.val x),some (.val y),some (.val (.int pr))]=_
    walk_at "run"
   ·rw[if_neg hl];trivial
  |_=>trivial
def Iq:dc Cp (lg Cp (jd Cs)) 2 (ou Cs):=by
 intro p fs ds;unfold ou
 match fs,ds with
 | [],[d]=>
  dsimp only;cases hc:jd Cs [d]with
  |no=>trivial
  |ex E=>
   refine⟨[some (.obj false Cp p []),some (.val d)],?_⟩;show ao _ _ [some (.obj false Cp p []),some (.val d)]=_
   walk_at "run"
  |ok x=>
   have o1:∀r fs,rW Cp (some (.obj true Cp p fs)::r) 0=.ok (p,fs):=λr fs=>kO rfl;have mk3:∀x y z,mkT [x,y,z]=.ok (.tup [x,y,z]):=λ_ _ _=>rfl;have z1:1<=sizeLine:=by decide
   have z0:0<=sizeLine:=by decide
   have w0:(0:Nat)<900:=by decide
   have w1':(1:Nat)<900:=by decide
   have k0:jG 0 (.own [.tup [.str [109,97,100,101],d,.int 0]]) []=[(0,Fd.own [st3 (.str eV) d 0])]:=rfl;have k1:jG 1 (.own []) [(0,Fd.own [st3 (.str eV) d 0])]=bK [st3 (.str eV) d 0] []:=rfl;refine⟨[some (.obj true Cp p (bK [st3 (.str eV) d 0] [])),some (.val d)],rfl,.inr ⟨?_,rfl⟩⟩;show ao _ _ [some (.obj true Cp p []),some (.val d)]=_
   walk_at "run"
 | [],[]=>trivial
 | [],_::_::_=>trivial
 |_::_,_=>trivial
end
noncomputable def hW(aq cU:List D->R D):Ev->O:=(ao (cF (az 4 cU (ac (rvz 0) (ac (g2 bJ (rvz 1) (ciz 5)) (ac (g2 bJ (ciz 1) (az 3 aq (ac (rvz 0) (ac (rvz 1) (ac (ciz 8) nlz))))) (ac (g2 bJ (ciz 1) (az 3 aq (ac (rvz 0) (ac (g2 bJ (rvz 1) (ciz 1)) (ac (ciz 4) nlz))))) nlz)))))) oNx)
def KC(a b c:D):ixD (.tup [a,b,c]) (.int 0)=some a:=rfl
def Nc(a b c:D):ixD (.tup [a,b,c]) (.int 1)=some b:=rfl
def Oz(a b c:D):ixD (.tup [a,b,c]) (.int 2)=some c:=rfl
def t3(x y z:D):mkT [x,y,z]=.ok (.tup [x,y,z]):=m_t (by simp)
def t2(x y:D):mkT [x,y]=.ok (.tup [x,y]):=m_t (by simp)
def tl_(x:List D):jR [.lst false x]=some (.tup x):=rfl
def KF(f:Bool)(x:List D):bI (.lst f x)=.ok x:=rfl
def ng(i:Int):wZ (.int i)=.ok (.int (-i)):=rfl
def zz{α:Type}(xs:List α)(a b:Nat):km xs (some (a:Int)) (some ((a+b:Nat):Int))=(xs.drop a).take b:=by
 unfold km;rw[HT.sIx_nat,HT.sIx_nat];by_cases h:a<=xs.length
 ·rw[Nat.min_eq_left h];by_cases h2:a+b<=xs.length;·rw[Nat.min_eq_left h2,Nat.add_sub_cancel_left]
  ·rw[Nat.min_eq_right (by omega),List.take_of_length_le (by simp),List.take_of_length_le (by simp;omega)]
 ·rw[Nat.min_eq_right (show xs.length<=a by omega),List.drop_length,List.take_nil,List.drop_of_length_le (by omega),List.take_nil]
def uD(h:screen d=true):sU d=true:=by
 cases d <;> first|(cases h;done)|skip
 rename_i xs
 match xs,h with
 | [],h=>cases h
 | [_],h=>cases h
 | [_,_],h=>cases h
 |a::b::c::e::l,h=>cases h
 | [a,r,p],h=>
  cases a <;> first|(cases h;done)|skip
  cases r <;> first|(simp[screen]at h;done)|skip
  simp only[screen,Bool.and_eq_true]at h;obtain⟨⟨h1,h2⟩,h3⟩:=h;simp only[ye,Bool.and_eq_true,List.all_eq_true]at h2;simp only[inB,Bool.and_eq_true,decide_eq_true_eq]at h1;simp only[sU,Bool.and_eq_true,List.all_eq_true];refine⟨⟨rfl,λr hr=>?_⟩,?_⟩
  ·have q:=h2.2 r hr;cases r <;> first|rfl|(cases q;done)|skip
   simp only[Ak,Bool.and_eq_true,beq_iff_eq]at q;simp only[IK,decide_eq_true_eq];have:=bo;omega
  ·cases p <;> first|(cases h3;done)|skip
   rename_i ps
   match ps,h3 with
   | [a,b],h3=>
    simp only[sR,Bool.and_eq_true]at h3;rw[List.all_eq_true];intro x hx;rcases List.mem_cons.1 hx with rfl|hx;·cases x <;> first|rfl|exact absurd h3.1 (by simp[inB])
    ·rcases List.mem_cons.1 hx with rfl|hx;·cases x <;> first|rfl|exact absurd h3.2 (by simp[inB])
     ·cases hx
def nC(h:screen d=true):jd C [d]=.ok .non:=by show(if sU d=true then (if screen d=true then R.ok D.non else .ex C)else .no)=_;rw[if_pos (uD h),if_pos h]
noncomputable def zN(b m r:Int):Bool:=decide (0<=b) && decide (b<=r - 1) && (decide (1<=m) && decide (m<=r - b))
noncomputable def JS(l w:Nat):D->D
 |.str x=>.str ((x.drop l).take w)
 |d=>d
noncomputable def Mc:List D->R D
 | [.tup [.int wd,.tup rows,p],.int t,.int l,.int h,.int w]=>if screen (.tup [.int wd,.tup rows,p])=true/\zN t h rows.length=true/\zN l w wd=true then .ok (.tup [.int w,.tup (((rows.drop t.toNat).take h.toNat).map (JS l.toNat w.toNat)),.tup [.int 0,.int 0]])else .no
 |_=>.no
def Fx{wd:Int}{p:D}(h:screen (.tup [.int wd,.tup rows,p])=true):(1<=wd/\wd<=40)/\(1<=rows.length/\rows.length<=12)/\(∀r∈rows,∃x,r=.str x/\aX x=true/\(x.length:Int)=wd)/\sR p wd rows.length=true:=by
 simp only[screen,Bool.and_eq_true]at h;obtain⟨⟨h1,h2⟩,h3⟩:=h;simp only[ye,Bool.and_eq_true,List.all_eq_true,decide_eq_true_eq]at h2;simp only[inB,Bool.and_eq_true,decide_eq_true_eq]at h1;refine⟨h1,h2.1,λr hr=>?_,h3⟩;have q:=h2.2 r hr;cases r <;> first|(cases q;done)|skip
 rename_i x;simp only[Ak,Bool.and_eq_true,beq_iff_eq]at q;exact⟨x,rfl,q.1,q.2⟩
noncomputable def wS(ns:List Int)(a:Nat):Nat:=(1+dh ns a 8).toNat
noncomputable def mS(ns:List Int)(a:Nat):Nat:=(1+dh ns (a+1) 4).toNat
def qa(ns:List Int)(a:Nat):1<=wS ns a/\wS ns a<=8/\(1:Int)+dh ns a 8=(wS ns a:Int):=by have h:=bw ns a (m:=8) (by decide);unfold wS;omega
def pO(ns:List Int)(a:Nat):1<=mS ns a/\mS ns a<=4/\(1:Int)+dh ns (a+1) 4=(mS ns a:Int):=by have h:=bw ns (a+1) (m:=4) (by decide);unfold mS;omega
noncomputable def pl(ns:List Int)(a:Nat)(wd m:Nat):D:=.tup [.int (dh ns (a+400) m),.int (dh ns (a+401) (wd+1))]
noncomputable def scS(ns:List Int)(a:Nat):D:=.tup [.int (wS ns a:Int),.tup (xD ns (a+5) (wS ns a) (mS ns a)),pl ns (a+5) (wS ns a) (mS ns a)]
noncomputable def xF:List D->R D:=λds=>ak (hW fu BZ (aj 2 ds))
def AW{ns:List Int}{a:Nat}:xF [.lst fz (ns.map .int),.int (a:Int)]=.ok (scS ns a):=by
 show ak (ao _ _ [some (.val (.lst fz (ns.map .int))),some (.val (.int a))])=_;have p1:fu [.lst fz (ns.map .int),.int (a:Int),.int 8]=.ok (.int (dh ns a 8)):=cj (by decide);have p2:fu [.lst fz (ns.map .int),.int ((a:Int)+1),.int 4]=.ok (.int (dh ns (a+1) 4)):=cj (by decide);obtain⟨w1,w2,w3⟩:=qa ns a;obtain⟨m1,m2,m3⟩:=pO ns a;have s1:BZ [.lst fz (ns.map .int),.int ((a:Int)+5),.int (wS ns a:Int),.int (mS ns a:Int)]=.ok (scS ns a):=yL (by omega) (by omega) (by omega)
 walk_at "run"
noncomputable abbrev St:=Nat×List (List Nat)×Nat×Nat
noncomputable def sD(s:St):D:=scr s.1 s.2.1 s.2.2.1 s.2.2.2
noncomputable def aW:St->Od->Option St
 | (wd,rows,r,c),.say x=>if wd<c+x.length then none else some (wd,rows.set r ((rows.getD r []).take c++x++(rows.getD r []).drop (c+x.length)),r,c+x.length)
 | (wd,rows,r,c),.go n k=>if rows.length<=n\/wd<k then none else some (wd,rows,n,k)
 | (wd,rows,r,c),.wipe=>some (wd,rows.set r ((rows.getD r []).take c++List.replicate (wd - c) 32),r,c)
structure GS(s:St):Prop where
 w1:1<=s.1
 w2:s.1<=40
 m:s.2.1.length<=12
 r:s.2.2.1<s.2.1.length
 c:s.2.2.2<=s.1
 l:∀x∈s.2.1,x.length=s.1/\aX x=true
def GS.screen{s:St}(h:GS s):screen (sD s)=true:=by
 obtain⟨wd,rows,r,c⟩:=s;have h1:=h.w1;have h2:=h.w2;have h3:=h.m;have h4:=h.r;have h5:=h.c;have h6:=h.l;dsimp only at h1 h2 h3 h4 h5 h6;have hf:ye (.tup (rows.map .str)) (wd:Int)=true:=by simp only[ye,List.length_map,Bool.and_eq_true,decide_eq_true_eq,List.all_eq_true];refine⟨⟨by omega,by omega⟩,λd hd=>?_⟩;obtain⟨x,hx,rfl⟩:=List.mem_map.1 hd;obtain⟨q1,q2⟩:=h6 x hx;simp[Ak,q1,q2]
 simp only[sD,scr,Q.screen,hf,sR,inB,List.length_map,Bool.and_eq_true,decide_eq_true_eq];refine⟨⟨⟨by omega,by omega⟩,trivial⟩,?_⟩;omega
def Ml(s:St):cl 10 (sD s)=true:=by
 have:(s.2.1.map D.str).all (cl 8)=true:=by rw[List.all_eq_true];intro d hd;obtain⟨x,_,rfl⟩:=List.mem_map.1 hd;rfl
 simp only[sD,scr,cl,List.all_cons,List.all_nil,this,Bool.and_true]
noncomputable def Jo(C:Addr):Option St->R D
 |some s=>.ok (sD s)
 |none=>.ex C
def fS{x y:List Nat}(h1:aX x=true)(h2:aX y=true):aX (x++y)=true:=by simp only[aX,List.all_append,Bool.and_eq_true]at *;exact⟨h1,h2⟩
def jP{x y:List Nat}(h:aX x=true)(hs:∀c∈y,c∈x):aX y=true:=by simp only[aX,List.all_eq_true]at h⊢;exact λc hc=>h c (hs c hc)
def vR{α:Type}{l:List α}{a x:α}(h:x∈l.set i a):x=a\/x∈l:=by
 rcases List.mem_or_eq_of_mem_set h with h|h;·exact .inr h
 ·exact .inl h
def gG{rows:List (List Nat)}{r:Nat}(h:r<rows.length):rows.getD r []∈rows:=by rw[List.getD_eq_getElem?_getD,List.getElem?_eq_getElem h];exact List.getElem_mem h
def gC{s s':St}{o:Od}(h:GS s)(ho:okO o=true)(e:aW s o=some s'):GS s':=by
 obtain⟨wd,rows,r,c⟩:=s;have h1:=h.w1;have h2:=h.w2;have h3:=h.m;have h4:=h.r;have h5:=h.c;have h6:=h.l;dsimp only at h1 h2 h3 h4 h5 h6;obtain⟨g1,g2⟩:=h6 _ (gG h4);cases o with
 |say x=>
  simp only[okO,Bool.and_eq_true]at ho;by_cases hn:wd<c+x.length;·simp only[aW,hn]at e;cases e
  ·simp only[aW,hn]at e;cases e;refine⟨h1,h2,by simpa using h3,by simpa using h4,by dsimp only;omega,λy hy=>?_⟩;rcases vR hy with rfl|hy;·refine⟨by simp only[List.length_append,List.length_take,List.length_drop];omega,fS (fS (jP g2 λc hc=>List.mem_of_mem_take hc) ho.1) (jP g2 λc hc=>List.mem_of_mem_drop hc)⟩
   ·exact h6 y hy
 |go n k=>
  by_cases hn:rows.length<=n\/wd<k;·simp only[aW,hn]at e;cases e
  ·simp only[aW,hn]at e;cases e;exact⟨h1,h2,h3,by dsimp only;omega,by dsimp only;omega,h6⟩
 |wipe=>
  cases e;refine⟨h1,h2,by simpa using h3,by simpa using h4,h5,λy hy=>?_⟩;rcases vR hy with rfl|hy
  ·refine⟨by simp only[List.length_append,List.length_take,List.length_replicate];omega,fS (jP g2 λc hc=>List.mem_of_mem_take hc) ?_⟩;simp only[aX,List.all_eq_true];intro z hz;rw[(List.mem_replicate.1 hz).2];decide
  ·exact h6 y hy
noncomputable def rn(a:Option St)(os:List Od):Option St:=os.foldl (λa o=>a.bind λs=>aW s o) a
def nJ(a:Option St)(o:Od)(os:List Od):rn a (o::os)=rn (a.bind λs=>aW s o) os:=rfl
def fh(a:Option St)(os ps:List Od):rn a (os++ps)=rn (rn a os) ps:=List.foldl_append ..
theorem dG:∀os:List Od,rn none os=none
 | []=>rfl
 |_::os=>dG os
theorem Fq:∀(os:List Od){s s':St},GS s->(∀o∈os,okO o=true)->rn (some s) os=some s'->GS s'
 | [],s,s',h,_,e=>by cases e;exact h
 |o::os,s,s',h,ho,e=>by
  rw[nJ,Option.bind_some]at e;cases q:aW s o with
  |none=>rw[q,dG]at e;cases e
  |some s1=>rw[q]at e;exact Fq os (gC h (ho o (List.mem_cons_self ..)) q) (λp hp=>ho p (List.mem_cons_of_mem _ hp)) e
def JJ(ns:List Int)(a:Nat):∃s:St,GS s/\scS ns a=sD s/\s.1=wS ns a/\s.2.1.length=mS ns a:=by
 obtain⟨w1,w2,_⟩:=qa ns a;obtain⟨m1,m2,_⟩:=pO ns a;have p1:=bw ns (a+5+400) (m:=(mS ns a:Int)) (by omega);have p2:=bw ns (a+5+401) (m:=(wS ns a:Int)+1) (by omega);refine⟨(wS ns a,(List.range (mS ns a)).map (λk=>xE ns (a+5+30 * k) (wS ns a)),(dh ns (a+5+400) (mS ns a)).toNat,(dh ns (a+5+401) (wS ns a+1)).toNat),⟨w1,by show wS ns a<=40;omega,by simp;omega,by simp;omega,by show(dh ns (a+5+401) (wS ns a+1)).toNat<=wS ns a;omega,λx hx=>?_⟩,?_,rfl,by simp⟩;·obtain⟨k,_,rfl⟩:=List.mem_map.1 hx;exact⟨nz ns _ _,oV ns _ _⟩
 ·show D.tup _=D.tup _;have e1:((dh ns (a+5+400) (mS ns a)).toNat:Int)=dh ns (a+5+400) (mS ns a):=by omega
  have e2:((dh ns (a+5+401) (wS ns a+1)).toNat:Int)=dh ns (a+5+401) (wS ns a+1):=by omega
  rw[e1,e2,List.map_map];rfl
noncomputable def fm(os:List Od):Int:=((os.map bb).sum:Nat)
def iL(o:Od)(os:List Od):fm (o::os)=(bb o:Int)+fm os:=by unfold fm;simp
def qi{l tk:List D}{a:D}{s:St}{c:Int}:fb (bK (l++[st3 a (sD s) c]) tk) []=.rd (sD s):=dU _ l tk a (sD s) c []
def pv{l tk:List D}{a:D}{s:St}{c:Int}:ff (bK (l++[st3 a (sD s) c]) tk) []=.rd (.int c):=dU _ l tk a (sD s) c []
def FZ{Cs:Addr}{s:St}(h:GS s):nT (ou Cs) 1 [sD s]=.ok (bK [st3 (.str eV) (sD s) 0] []):=by have e:jd Cs [sD s]=.ok .non:=nC h.screen;unfold nT ou;rw[if_pos (show [sD s].length=1 from rfl)];dsimp only;rw[e]
section
variable{Cs Co Cr Cp:Addr}
inductive Dd where
 |scroll (z:Int)
 |ord (o:Od)
end
section
variable{Cs Co Cr:Addr}
def wn{n:Nat}{fs:List (Nat×Fd)}(ho:ρ[i]?=some (some (.obj true C p fs)))(ha:gl ρ=.ok ds)(hl:ds.length=n)(hF:F fs ds=.ok d fs'):iZ C i n F gl ρ=.re d (ρ.set i (some (.obj true C p fs'))):=by unfold iZ KD;rw[ho];dsimp only;rw[if_pos rfl,R.ok_out,ha,R.ok_out];dsimp only;rw[if_pos hl,hF];rfl
end
noncomputable def ik(aG bi:List D->R D):Ev->O:=(ao (nh (az 1 aG (ac (rvz 0) nlz))) (ao (oIf (vp (gBn (ax lG (ax (kX (·=="list")) (rvz 1)))) (gB2 gtD (gOf fD (ac (rvz 1) nlz)) (gOf fD (ac (g2 ixD (rvz 0) (ciz 1)) nlz)))) (ao (cF (λ_=>R.ok (D.bl false))) oNx) oNx) (ao (cF (gOf BR (ac (cL (ib (ax bI (rvz 1)) [0] (λ_=>R.ok true) (lA (az 1 bi (ac (rvz 0) nlz)) (g2 leD (gOf fD (ac (rvz 0) nlz)) (g2 ixD (rvz 1) (ciz 0)))))) nlz))) oNx)))
noncomputable def txt(m:Nat)(x:List Nat):Bool:=aX x && decide (x.length<=m)
def rh{x:List Nat}(h:x.length<=1000):lv [.str x]=.ok (.bl (aX x)):=if_pos (Nat.le_trans h bo)
def Ja(f:Bool)(ds:List D):BR [.lst f (ds.map λ_=>D.bl true)]=some (.bl true):=by have:=qw (λ_=>true) f ds;rw[this];simp
def Mg{x y:List D}(h:x.length+y.length<=sizeLine):bJ (.lst false x) (.lst false y)=some (.lst false (x++y)):=by simp only[bJ];rw[if_pos h]
noncomputable def cw(n wd:Nat)(xs:List (List Nat)):Bool:=decide (xs.length<=n) && xs.all (txt wd)
def jB(c:Nat)(x:D)(xs:List D):br c (x::xs)=.tup [.int (c:Int),x]::br (c+1) xs:=by
 unfold br;rw[List.length_cons,List.range_succ_eq_map,List.map_cons,List.map_map];refine congrArg (_::·) (List.map_congr_left λi _=>?_);simp only[Function.comp,List.getD_cons_succ]
 congr 2
 congr 1
 congr 1
 omega
def kY(c:Nat):br c []=[]:=rfl
noncomputable def ki(rows:List D)(wd:Nat):Prop:=∀r∈rows,∃x,r=D.str x/\x.length=wd/\aX x=true
def rA{x y:List Nat}(h1:aX x=true)(h2:aX y=true):aX (x++y)=true:=by simp only[aX,List.all_append,Bool.and_eq_true]at *;exact⟨h1,h2⟩
def xr{x:List Nat}(n:Nat)(h:aX x=true):aX (x.take n)=true:=by simp only[aX,List.all_eq_true]at *;exact λc hc=>h c (List.mem_of_mem_take hc)
def xz{x:List Nat}(n:Nat)(h:aX x=true):aX (x.drop n)=true:=by simp only[aX,List.all_eq_true]at *;exact λc hc=>h c (List.mem_of_mem_drop hc)
def BS{wd t:Nat}(h:ki rows wd)(ht:t<rows.length):∃x,rows.getD t .non=D.str x/\x.length=wd/\aX x=true:=by refine h _ ?_;rw[List.getD_eq_getElem?_getD,List.getElem?_eq_getElem ht];exact List.getElem_mem ht
def C6{α:Type}(x:List α)(n:Nat):km x (some (n:Int)) none=x.drop n:=by
 unfold km;rw[HT.sIx_nat,HT.sIx_none];by_cases h:n<=x.length;·rw[Nat.min_eq_left h,List.take_of_length_le (by simp)]
 ·rw[Nat.min_eq_right (by omega),List.drop_length,List.take_nil,List.drop_of_length_le (by omega)]
def Km{α:Type}(x:List α)(n:Nat):km x none (some (n:Int))=x.take n:=by
 unfold km;rw[HT.sIx_nat,HT.sIx_none,List.drop_zero,Nat.sub_zero];by_cases h:n<=x.length;·rw[Nat.min_eq_left h]
 ·rw[Nat.min_eq_right (by omega),List.take_of_length_le (by omega),List.take_of_length_le (by omega)]
def Gn{wd:Nat}{p:D}(h:screen (.tup [.int (wd:Int),.tup rows,p])=true):ki rows wd:=by obtain⟨_,_,hr,_⟩:=Fx h;intro r m;obtain⟨x,rfl,a,b⟩:=hr r m;exact⟨x,rfl,by omega,a⟩
noncomputable def dj(fO:List D->R D)(bC:Addr):Ev->O:=(ao (oIf (gBn (ax lG (az 2 fO (ac (rvz 0) (ac (rvz 1) nlz))))) (ao (lh bC (ac (csz [116,104,101,115,101,32,97,114,101,32,110,111,32,114,111,119,115,32,116,104,97,116,32,116,104,101,32,115,99,114,101,101,110,32,99,97,110,32,115,104,111,119]) nlz)) oNx) oNx) oNx)
noncomputable def gJ:Ev->O:=(ao (eU 2 (g2 ixD (rvz 0) (ciz 0))) (ao (eU 3 (g2 wB (gOf fD (ac (g2 ixD (rvz 0) (ciz 1)) nlz)) (gOf fD (ac (rvz 1) nlz)))) (ao (cF (g2 bJ (cL (ib (ax bI (rvz 1)) [2] (λ_=>R.ok true) (va "str" jg (rvz 0) (ac (rvz 1) nlz)))) (g2 gB (cL (tj (ac (g2 gB (csz [32]) (rvz 2)) nlz))) (rvz 3)))) oNx)))
noncomputable def db(aS aI:List D->R D):Ev->O:=(ao (eU 5 (g2 ixD (g2 ixD (rvz 0) (ciz 1)) (rvz 3))) (ao (KN 2 (cL (ib (ax cI (ac (g2 ixD (rvz 0) (ciz 0)) nlz)) [3,4,5] (gB2 neF (g2 ixD (rvz 3) (rvz 0)) (g2 ixD (rvz 2) (rvz 0))) (ax mkT (ac (rvz 1) (ac (rvz 0) nlz)))))) oNx))
noncomputable def dC(aS aI:List D->R D):Ev->O:=(ao (nh (az 2 aS (ac (rvz 0) (ac (rvz 1) nlz)))) (ao (zu 2 (tj nlz)) (ao (oN (ur [3,4]) (ax pN (az 2 aI (ac (rvz 0) (ac (rvz 1) nlz)))) (db aS aI)) (Bz 2 (ao (cF (rvz 2)) oNx)))))
def zh{gt:Ev->R Bool}(p:D->Bool)(h:D->D)(tl:Ev)(ds:List D)(a:Option Sl)(H:∀d∈ds,gt (some (.val d)::tl)=.ok (p d)/\ge (some (.val d)::tl)=.ok (h d)):gW gt ge ds (a::tl)=.ok ((ds.filter p).map h):=
 zQz9 p h tl ds a λd m=>⟨(H d m).1,λ_=>(H d m).2⟩
noncomputable def Ck(wd:Nat)(x:List Nat):List Nat:=x++List.replicate (wd - x.length) 32
noncomputable def dM(k wd:Nat)(x y:List Nat):List D:=((List.range wd).filter λc=>!(x.getD c 0==y.getD c 0)).map λ(c:Nat)=>.tup [.int (k:Int),.int (c:Int)]
noncomputable def tq:D->List Nat
 |.str x=>x
 |_=>[]
noncomputable def fI(wd:Nat)(rows:List D):Nat->List D->List D
 |_,[]=>[]
 |k,y::ys=>dM k wd (tq (rows.getD k .non)) (tq y)++fI wd rows (k+1) ys
def mI(k wd:Nat)(x y:List Nat):(dM k wd x y).length<=wd:=by unfold dM;rw[List.length_map];exact Nat.le_trans (List.length_filter_le ..) (by simp)
theorem oG{F1 F2:List D->R D}{rows:List D}{wd:Nat}(hw:wd<=40)(hr:ki rows wd)(p:D)(x1:Option Sl):∀(ys:List D)(k:Nat)(x3 x4 x5:Option Sl)(acc:List D),k+ys.length<=rows.length->ki ys wd->acc.length+40 * ys.length<=1000->∃y3 y4 y5,cg (ur [3,4]) (db F1 F2) (br k ys) [some (.val (.tup [.int (wd:Int),.tup rows,p])),x1,some (.own acc),x3,x4,x5]
  = .nx [some (.val (.tup [.int (wd:Int),.tup rows,p])),x1,some (.own (acc++fI wd rows k ys)),y3,y4,y5]
 | [],k,x3,x4,x5,acc,_,_,_=>⟨x3,x4,x5,by rw[kY,qm,fI,List.append_nil]⟩
 |y::ys,k,x3,x4,x5,acc,hk,hy,ha=>by
  obtain⟨x,hx,a1,a2⟩:=BS hr (show k<rows.length by simp at hk;omega);obtain⟨z,rfl,b1,b2⟩:=hy y (List.mem_cons_self ..);have hsr:=mI k wd x z;obtain⟨y3,y4,y5,ih⟩:=oG hw hr p x1 ys (k+1) (some (.val (.int (k:Int)))) (some (.val (.str z))) (some (.val (.str x))) (acc++dM k wd x z) (by simp at hk;omega) (λr m=>hy r (List.mem_cons_of_mem _ m)) (by simp at ha⊢;omega);refine⟨y3,y4,y5,?_⟩;have hB:db F1 F2 [some (.val (.tup [.int (wd:Int),.tup rows,p])),x1,some (.own acc),some (.val (.int (k:Int))),some (.val (.str z)),x5]=.nx [some (.val (.tup [.int (wd:Int),.tup rows,p])),x1,some (.own (acc++dM k wd x z)),some (.val (.int (k:Int))),some (.val (.str z)),some (.val (.str x))]:=by
   have lb:=bo;have x0:=KC;have x1':=Nc;have e1:ixD (.tup rows) (.int (k:Int))=some (.str x):=HC (by rw[<- hx,List.getD_eq_getElem?_getD,List.getElem?_eq_getElem (by simp at hk;omega)];rfl);have r1:cI [.int (wd:Int)]=.ok ((List.range wd).map λ(i:Nat)=>D.int (i:Int)):=wq (by omega);have m2:=t2;have e:gW (gB2 neF (g2 ixD (rvz 3) (rvz 0)) (g2 ixD (rvz 2) (rvz 0))) (ax mkT (ac (rvz 1) (ac (rvz 0) nlz))) ((List.range wd).map λ(i:Nat)=>D.int (i:Int)) [none,some (.val (.int (k:Int))),some (.val (.str z)),some (.val (.str x))]=.ok (dM k wd x z):=by
    have:=zh (gt:=gB2 neF (g2 ixD (rvz 3) (rvz 0)) (g2 ixD (rvz 2) (rvz 0))) (ge:=ax mkT (ac (rvz 1) (ac (rvz 0) nlz))) (λd=>match d with|.int i=>!(x.getD i.toNat 0==z.getD i.toNat 0)|_=>false) (λd=>.tup [.int (k:Int),d]) [some (.val (.int (k:Int))),some (.val (.str z)),some (.val (.str x))] ((List.range wd).map λ(i:Nat)=>D.int (i:Int)) none λd hd=>by
     obtain⟨i,hi,rfl⟩:=List.mem_map.1 hd;rw[List.mem_range]at hi;have e2:ixD (.str x) (.int (i:Int))=some (.str [x.getD i 0]):=KM (by rw[List.getD_eq_getElem?_getD,List.getElem?_eq_getElem (by omega)];rfl);have e4:ixD (.str z) (.int (i:Int))=some (.str [z.getD i 0]):=KM (by rw[List.getD_eq_getElem?_getD,List.getElem?_eq_getElem (by omega)];rfl);have e3:=Int.toNat_natCast i;have e5:∀u v:Nat,(([u]:List Nat)==[v])=(u==v):=λu v=>by simp
     refine⟨?_,?_⟩;·walk_at "run"
     ·walk_at "run"
    rw[this,List.filter_map,List.map_map];unfold dM;simp only[Function.comp_def,Int.toNat_natCast]
   have i2:jm [3,4,5] [some (.val (.tup [.int (wd:Int),.tup rows,p])),x1,some (.own acc),some (.val (.int (k:Int))),some (.val (.str z)),some (.val (.str x))]=[none,some (.val (.int (k:Int))),some (.val (.str z)),some (.val (.str x))]:=rfl;have z1:(dM k wd x z).length<=sizeLine:=by omega
   have z2:acc.length+(dM k wd x z).length<=sizeLine:=by simp at ha;omega
   unfold db
   walk_at "run"
  rw[jB,dX rfl hB,ih,fI,hx,List.append_assoc];rfl
def xV(n c:Nat)(h:(decide (32<=c) && decide (c<=126))=true):aX (List.replicate n c)=true:=by simp only[aX,List.all_eq_true];intro x hx;rw[(List.mem_replicate.1 hx).2];exact h
noncomputable def cQ:Ev->O:=(ao (cF (lA (g2 eqF (g2 ixD (rvz 0) (ciz 0)) (g2 ixD (rvz 1) (ciz 0))) (g2 eqF (g2 bJ (g2 ixD (rvz 0) (ciz 1)) (g2 ixD (rvz 0) (ciz 2))) (g2 ixD (rvz 1) (ciz 1))))) oNx)
noncomputable def ka(bM bn:List D->R D):Ev->O:=(ao (MJ 2 (EZ (gB2 gtD (gOf fD (ac (rvz 2) nlz)) (ciz 0)) (ax lG (az 2 bn (ac (g2 ixD (rvz 2) (ax wZ (ciz 1))) (ac (rvz 3) nlz))))) (ao (Bo 2 4 (g2 ixD (rvz 2) (ax wZ (ciz 1)))) (ao (Ci 2 (ax wZ (ciz 1)) (ax mkT (ac (g2 ixD (rvz 4) (ciz 0)) (ac (g2 ixD (rvz 4) (ciz 1)) (ac (g2 bJ (g2 ixD (rvz 4) (ciz 2)) (ciz 1)) nlz))))) oNx)) (ao (JF 2 (ax mkT (ac (g2 ixD (rvz 3) (ciz 0)) (ac (g2 ixD (rvz 3) (ciz 1)) (ac (ciz 1) nlz))))) oNx)) oNx)
noncomputable def mU(bM bn:List D->R D):Ev->O:=(ao (zu 2 (tj nlz)) (ao (oN (la 3) (ax bI (az 2 bM (ac (rvz 0) (ac (rvz 1) nlz)))) (ka bM bn)) (Bz 2 (ao (cF (rvz 2)) oNx))))
noncomputable def gy(aq bD:List D->R D):Ev->O:=(ao (eU 6 (az 3 aq (ac (rvz 0) (ac (g2 bJ (rvz 1) (g2 gB (ciz 40) (rvz 4))) (ac (ciz 4) nlz))))) (ao (oIf (gB2 eqF (rvz 6) (ciz 0)) (ao (eU 5 (az 3 bD (ac (rvz 0) (ac (g2 bJ (g2 bJ (rvz 1) (g2 gB (ciz 40) (rvz 4))) (ciz 1)) (ac (g2 ixD (rvz 2) (ciz 0)) nlz))))) oNx) (ao (oIf (gB2 ltD (rvz 6) (ciz 3)) (ao (eU 7 (az 3 aq (ac (rvz 0) (ac (g2 bJ (g2 bJ (rvz 1) (g2 gB (ciz 40) (rvz 4))) (ciz 30)) (ac (g2 ixD (rvz 2) (ciz 0)) nlz))))) (ao (eU 5 (g2 bJ (g2 bJ (gSl (rvz 5) (λ_=>R.ok none) (fK (rvz 7))) (g2 ixD (csz [97,98,32,35]) (az 3 aq (ac (rvz 0) (ac (g2 bJ (g2 bJ (rvz 1) (g2 gB (ciz 40) (rvz 4))) (ciz 31)) (ac (ciz 4) nlz)))))) (gSl (rvz 5) (fK (g2 bJ (rvz 7) (ciz 1))) (λ_=>R.ok none)))) oNx)) oNx) oNx)) (ao (JF 3 (va "str" kG (rvz 5) (ac (csz [32]) nlz))) oNx)))
noncomputable def im(aq bD:List D->R D):Ev->O:=(ao (zu 3 (tj nlz)) (ao (oN (ur [4,5]) (ax pN (g2 ixD (rvz 2) (ciz 1))) (gy aq bD)) (Bz 3 (ao (cF (gSl (rvz 3) (λ_=>R.ok none) (fK (g2 wB (gOf fD (ac (rvz 3) nlz)) (az 3 aq (ac (rvz 0) (ac (g2 bJ (rvz 1) (ciz 399)) (ac (ciz 2) nlz)))))))) oNx))))
noncomputable def iy:Ev->O:=(ao (zu 2 (ib (ax bI (rvz 1)) [0] (λ_=>R.ok true) (g2 bJ (rvz 0) (g2 gB (csz [32]) (g2 wB (g2 ixD (rvz 1) (ciz 0)) (gOf fD (ac (rvz 0) nlz))))))) (Bz 2 (ao (cF (gOf jR (ac (g2 bJ (rvz 2) (g2 gB (cL (tj (ac (g2 gB (csz [32]) (g2 ixD (rvz 0) (ciz 0))) nlz))) (g2 wB (gOf fD (ac (g2 ixD (rvz 0) (ciz 1)) nlz)) (gOf fD (ac (rvz 1) nlz))))) nlz))) oNx)))
def wa:20000<=sizeLine:=by decide
def Na(a b:D):ixD (.tup [a,b]) (.int 0)=some a:=rfl
def Oi(a b:D):ixD (.tup [a,b]) (.int 1)=some b:=rfl
def dQ{α:Type}(l:List α):l=[]\/∃l' b,l=l'++[b]:=by
 rcases List.eq_nil_or_concat l with h|⟨l',b,h⟩;·exact .inl h
 ·exact .inr ⟨l',b,by rw[h,List.concat_eq_append]⟩
def J9(f:Bool)(l:List D)(d:D):ixD (.lst f (l++[d])) (.int (-1))=some d:=by
 show atI (l++[d]) (-1)=some d;unfold atI ixN;rw[if_neg (by omega),if_pos (by simp;omega)];have:((-1:Int)+((l++[d]).length:Nat)).toNat=l.length:=by simp;omega
 rw[this];simp
def GI(l:List D)(d:D):ixN (l++[d]).length (-1)=some l.length:=by
 unfold ixN
 congr 1;simp;omega
def BH(l:List D)(d e:D):(l++[d]).set l.length e=l++[e]:=by simp
def wP(g:Nat->Bool)(l:List Nat):l.take (l.length - (l.reverse.takeWhile g).length)=(l.reverse.dropWhile g).reverse:=by
 have e:l.reverse=l.reverse.takeWhile g++l.reverse.dropWhile g:=List.takeWhile_append_dropWhile.symm;generalize l.reverse.takeWhile g=a at *;generalize l.reverse.dropWhile g=b at *;have e2:l=b.reverse++a.reverse:=by rw[<- List.reverse_append,<- e,List.reverse_reverse]
 subst e2;rw[List.take_left' (by simp)]
def xb(g:Nat->Bool)(X:PySem.Str):(PySem.Txt.stripBy g false true X).cps.toList=(X.cps.toList.reverse.dropWhile g).reverse:=by
 rw[<- wP];have hl:X.length=X.cps.toList.length:=by simp[PySem.Str.length]
 have h0:PySem.stripLo g false X=0:=rfl;have h1:PySem.stripHi g true X 0=X.cps.toList.length - (X.cps.toList.reverse.takeWhile g).length:=by rw[<- hl];rfl
 unfold PySem.Txt.stripBy;split;·rename_i hs;unfold PySem.stripSame at hs;rw[h0,h1,Bool.and_eq_true,beq_iff_eq,beq_iff_eq,hl]at hs;rw[hs.2,List.take_length]
 ·unfold PySem.stripped;rw[h0,h1];show(X.cps.extract 0 _).toList=_;rw[Array.toList_extract];simp[List.extract_eq_take_drop]
def wX(x:List Nat)(c:Nat):fo x [c]=(x.reverse.dropWhile λd=>[c].contains d).reverse:=by
 show(PySem.Txt.stripBy _ false true _).cps.toList=_;rw[xb];have e:(λd=>#[c].contains d)=λd=>[c].contains d:=by funext d;simp
 show(x.toArray.toList.reverse.dropWhile λd=>#[c].contains d).reverse=_;rw[e]
def yH{x:List Nat}{m:Nat}(h:aX x=true)(hl:x.length<=m):aX (fo x [32])=true/\(fo x [32]).length<=m:=by
 rw[wX];have hs:(x.reverse.dropWhile λd=>[32].contains d).Sublist x.reverse:=List.dropWhile_sublist _;refine⟨?_,?_⟩;·simp only[aX,List.all_eq_true,List.mem_reverse]at h⊢;intro c hc;exact h c (List.mem_reverse.1 (hs.subset hc))
 ·have:=hs.length_le;simp at this⊢;omega
noncomputable def Bi:List D->R D
 | [.tup [.int a,.int b,.int n],.tup [.int c,.int d]]=>.ok (.bl ((a==c) && (b+n==d)))
 |_=>.no
def t3i{P:Prop}(h:∀a b n,d=.tup [.int a,.int b,.int n]->P)(h2:(∀a b n,d≠.tup [.int a,.int b,.int n])->P):P:=by
 by_cases e:∃a b n,d=.tup [.int a,.int b,.int n];·obtain⟨a,b,n,e⟩:=e;exact h a b n e
 ·exact h2 λa b n q=>e ⟨a,b,n,q⟩
def t2i{P:Prop}(h:∀a b,d=.tup [.int a,.int b]->P)(h2:(∀a b,d≠.tup [.int a,.int b])->P):P:=by
 by_cases e:∃a b,d=.tup [.int a,.int b];·obtain⟨a,b,e⟩:=e;exact h a b e
 ·exact h2 λa b q=>e ⟨a,b,q⟩
def jJ:∀ds:List D,ds.length=2->Bi ds=.no\/ak (cQ (aj 2 ds))=Bi ds:=by
 intro ds hl
 match ds,hl with
 | [d,e],_=>
  refine t3i (d:=d) (λa b n h=>?_) λh=>Or.inl ?_
  ·subst h;refine t2i (d:=e) (λc k h=>?_) λh=>Or.inl ?_
   ·subst h;refine Or.inr ?_;show ak (ao _ _ [some (.val (.tup [.int a,.int b,.int n])),some (.val (.tup [.int c,.int k]))])=R.ok (.bl ((a==c) && (b+n==k)));have y0:=KC (.int a) (.int b) (.int n);have z0:=Na (.int c) (.int k);cases q:(a==c)
    ·walk_at "run"
     all_goals rfl
    ·walk_at "run"
     all_goals rfl
   ·unfold Bi;split;·rename_i q;cases q;exact absurd rfl (h _ _)
    ·rfl
  ·unfold Bi;split;·rename_i q;cases q;exact absurd rfl (h _ _ _)
   ·rfl
noncomputable def spD(p:Nat×Nat):D:=.tup [.int (p.1:Int),.int (p.2:Int)]
noncomputable def snD(s:Nat×Nat×Nat):D:=.tup [.int (s.1:Int),.int (s.2.1:Int),.int (s.2.2:Int)]
noncomputable def jN(acc:List (Nat×Nat×Nat))(p:Nat×Nat):List (Nat×Nat×Nat):=match acc.getLast? with
 |some (k,c,n)=>if k=p.1/\c+n=p.2 then acc.dropLast++[(k,c,n+1)]else acc++[(p.1,p.2,1)]
 |none=>[(p.1,p.2,1)]
def Ao(p:Nat×Nat):jN [] p=[(p.1,p.2,1)]:=rfl
def qx(a:List (Nat×Nat×Nat))(k c n:Nat):jN (a++[(k,c,n)]) (k,c+n)=a++[(k,c,n+1)]:=by simp[jN]
def lC(a:List (Nat×Nat×Nat))(k c n:Nat)(p:Nat×Nat)(h : ¬ (k=p.1/\c+n=p.2)):jN (a++[(k,c,n)]) p=a++[(k,c,n)]++[(p.1,p.2,1)]:=by simp[jN,h]
def rM(a:List (Nat×Nat×Nat))(p:Nat×Nat):(jN a p).length<=a.length+1:=by
 rcases dQ a with rfl|⟨a,⟨k,c,n⟩,rfl⟩;·simp[Ao]
 ·by_cases h:k=p.1/\c+n=p.2;·obtain⟨p1,p2⟩:=p;obtain⟨h1,h2⟩:=h;subst h1 h2;rw[qx];simp
  ·rw[lC _ _ _ _ _ h];simp
def xk{F:List D->R D}(x0 x1 x4:Option Sl)(a:List (Nat×Nat×Nat))(p:Nat×Nat)(ha:a.length<3000):∃y4,ka F Bi [x0,x1,some (.own (a.map snD)),some (.val (spD p)),x4]=.nx [x0,x1,some (.own ((jN a p).map snD)),some (.val (spD p)),y4]:=by
 have lb:=wa;have z:(a.map snD).length<sizeLine:=by simp;omega
 have m3:=t3;have f2:∀(a0 a1 a3 a4:Option Sl)(ds:List D),frz 2 [a0,a1,some (.own ds),a3,a4]=[a0,a1,some (.val (.lst false ds)),a3,a4]:=λ_ _ _ _ _=>rfl;have g1:=ng 1;obtain⟨pk,pc⟩:=p;have ep:spD (pk,pc)=.tup [.int (pk:Int),.int (pc:Int)]:=rfl;have w0:=Na (.int (pk:Int)) (.int (pc:Int));have w1:=Oi (.int (pk:Int)) (.int (pc:Int));rw[ep];unfold ka;rcases dQ a with rfl|⟨a,⟨k,c,n⟩,rfl⟩
 ·refine⟨x4,?_⟩
  all_goals rfl
 ·have em:(a++[(k,c,n)]).map snD=a.map snD++[.tup [.int (k:Int),.int (c:Int),.int (n:Int)]]:=by simp[snD]
  rw[em]at z⊢;have q1:decide (((a.map snD++[D.tup [.int (k:Int),.int (c:Int),.int (n:Int)]]).length:Int) > 0)=true:=by simp <;> omega
  have l1:=J9 false (a.map snD) (.tup [.int (k:Int),.int (c:Int),.int (n:Int)]);have y0:=KC (.int (k:Int)) (.int (c:Int)) (.int (n:Int));have y1:=Nc (.int (k:Int)) (.int (c:Int)) (.int (n:Int));have y2:=Oz (.int (k:Int)) (.int (c:Int)) (.int (n:Int));by_cases h:k=pk/\c+n=pc
  ·refine⟨some (.val (.tup [.int (k:Int),.int (c:Int),.int (n:Int)])),?_⟩;obtain⟨h1,h2⟩:=h;have rb:Bi [.tup [.int (k:Int),.int (c:Int),.int (n:Int)],.tup [.int (pk:Int),.int (pc:Int)]]=.ok (.bl true):=by
    show R.ok (D.bl (((k:Int)==(pk:Int)) && ((c:Int)+(n:Int)==(pc:Int))))=_;have e1:((k:Int)==(pk:Int))=true:=by simp;omega
    have e2:((c:Int)+(n:Int)==(pc:Int))=true:=by simp;omega
    rw[e1,e2];rfl
   have i1:=GI (a.map snD) (.tup [.int (k:Int),.int (c:Int),.int (n:Int)]);have s1:=BH (a.map snD) (.tup [.int (k:Int),.int (c:Int),.int (n:Int)]) (.tup [.int (k:Int),.int (c:Int),.int ((n:Int)+1)]);have e7:∀i j l:Int,fl 10 (.tup [.int i,.int j,.int l])=true:=λ_ _ _=>rfl;have e9:(jN (a++[(k,c,n)]) (pk,pc)).map snD=a.map snD++[.tup [.int (k:Int),.int (c:Int),.int ((n:Int)+1)]]:=by rw[<- h1,<- h2,qx];simp[snD]
   clear ha lb em h1 h2 ep
   walk_at "run"
  ·refine⟨x4,?_⟩;have rb:Bi [.tup [.int (k:Int),.int (c:Int),.int (n:Int)],.tup [.int (pk:Int),.int (pc:Int)]]=.ok (.bl false):=by
    show R.ok (D.bl (((k:Int)==(pk:Int)) && ((c:Int)+(n:Int)==(pc:Int))))=_;by_cases h1:k=pk
    ·have e2:((c:Int)+(n:Int)==(pc:Int))=false:=by simp;omega
     rw[e2,Bool.and_false]
    ·have e1:((k:Int)==(pk:Int))=false:=by simp;omega
     rw[e1,Bool.false_and]
   have e9:(jN (a++[(k,c,n)]) (pk,pc)).map snD=a.map snD++[.tup [.int (k:Int),.int (c:Int),.int (n:Int)]]++[.tup [.int (pk:Int),.int (pc:Int),.int 1]]:=by rw[lC _ _ _ _ _ h];simp[snD]
   walk_at "run"
theorem oW{F:List D->R D}(x0 x1:Option Sl):∀(ps:List (Nat×Nat))(a:List (Nat×Nat×Nat))(x3 x4:Option Sl),a.length+ps.length<=2000->∃y3 y4,cg (la 3) (ka F Bi) (ps.map spD) [x0,x1,some (.own (a.map snD)),x3,x4]=.nx [x0,x1,some (.own ((ps.foldl jN a).map snD)),y3,y4]
 | [],a,x3,x4,_=>⟨x3,x4,rfl⟩
 |p::ps,a,x3,x4,h=>by simp only[List.length_cons]at h;have hp:=rM a p;obtain⟨z4,hB⟩:=xk x0 x1 x4 a p (by omega);obtain⟨y3,y4,ih⟩:=oW x0 x1 ps (jN a p) (some (.val (spD p))) z4 (by omega);refine⟨y3,y4,?_⟩;rw[List.map_cons,dX rfl hB];exact ih
noncomputable def su(wd:Nat)(x y:List Nat):List Nat:=(List.range wd).filter λc=>!(x.getD c 0==y.getD c 0)
noncomputable def eK(wd:Nat):Nat->List (List Nat×List Nat)->List (Nat×Nat)
 |_,[]=>[]
 |k,p::ps=>(su wd p.1 p.2).map (λc=>(k,c))++eK wd (k+1) ps
noncomputable def prs(rows ys:List D):List (List Nat×List Nat):=List.zipWith (λr y=>(tq r,tq y)) rows ys
theorem vK(wd:Nat)(rows:List D):∀(ys:List D)(k:Nat),k+ys.length<=rows.length->fI wd rows k ys=(eK wd k (prs (rows.drop k) ys)).map spD
 | [],k,_=>by unfold prs;rw[List.zipWith_nil_right];rfl
 |y::ys,k,h=>by
  simp only[List.length_cons]at h;have e:rows.drop k=rows.getD k .non::rows.drop (k+1):=by rw[List.drop_eq_getElem_cons (by omega),List.getD_eq_getElem?_getD,List.getElem?_eq_getElem (by omega)];rfl
  unfold prs;rw[e,List.zipWith_cons_cons,fI,vK wd rows ys (k+1) (by omega)];show _=(((su wd (tq (rows.getD k .non)) (tq y)).map λc=>(k,c))++eK wd (k+1) _).map spD;rw[List.map_append,List.map_map];rfl
noncomputable def jb(acc:List (Nat×Nat))(c:Nat):List (Nat×Nat):=match acc.getLast? with
 |some (c0,n)=>if c0+n=c then acc.dropLast++[(c0,n+1)]else acc++[(c,1)]
 |none=>[(c,1)]
noncomputable def emb(k:Nat)(q:Nat×Nat):Nat×Nat×Nat:=(k,q.1,q.2)
def CP(a:List (Nat×Nat×Nat))(acc:List (Nat×Nat))(k c:Nat)(h:∀s∈a,s.1<k):jN (a++acc.map (emb k)) (k,c)=a++(jb acc c).map (emb k):=by
 rcases dQ acc with rfl|⟨acc,⟨c0,n⟩,rfl⟩
 ·have e:jb [] c=[(c,1)]:=rfl;rw[e,List.map_nil,List.append_nil];rcases dQ a with rfl|⟨a,⟨k',c',n'⟩,rfl⟩;·rfl
  ·have:=h (k',c',n') (by simp);rw[lC _ _ _ _ _ (λz=>by have z1:=z.1;have:k'<k:=this;omega)];rfl
 ·have em:a++(acc++[(c0,n)]).map (emb k)=(a++acc.map (emb k))++[(k,c0,n)]:=by simp[emb]
  rw[em];by_cases e:c0+n=c
  ·subst e;have e2:jb (acc++[(c0,n)]) (c0+n)=acc++[(c0,n+1)]:=by simp[jb]
   rw[qx,e2];simp[emb]
  ·have e2:jb (acc++[(c0,n)]) c=acc++[(c0,n)]++[(c,1)]:=by simp[jb,e]
   rw[lC _ _ _ _ _ (λz=>e z.2),e2];simp[emb]
theorem vW(a:List (Nat×Nat×Nat))(k:Nat)(h:∀s∈a,s.1<k):∀(cols:List Nat)(acc:List (Nat×Nat)),(cols.map λc=>(k,c)).foldl jN (a++acc.map (emb k))=a++(cols.foldl jb acc).map (emb k)
 | [],acc=>rfl
 |c::cols,acc=>by rw[List.map_cons,List.foldl_cons,CP a acc k c h,vW a k h cols,List.foldl_cons]
noncomputable def uF(wd:Nat)(p:List Nat×List Nat):List (Nat×Nat):=(su wd p.1 p.2).foldl jb []
noncomputable def spP(wd:Nat):Nat->List (List Nat×List Nat)->List (Nat×Nat×Nat)
 |_,[]=>[]
 |k,p::ps=>(uF wd p).map (emb k)++spP wd (k+1) ps
theorem vJ(wd:Nat):∀(ps:List (List Nat×List Nat))(k:Nat)(a:List (Nat×Nat×Nat)),(∀s∈a,s.1<k)->(eK wd k ps).foldl jN a=a++spP wd k ps
 | [],k,a,_=>by rw[eK,spP,List.append_nil];rfl
 |p::ps,k,a,h=>by
  have e:=vW a k h (su wd p.1 p.2) [];rw[List.map_nil,List.append_nil]at e;rw[eK,List.foldl_append,e,vJ wd ps (k+1),spP,List.append_assoc];·rfl
  ·intro s hs;rcases List.mem_append.1 hs with hs|hs;·have:=h s hs;omega
   ·obtain⟨q,_,rfl⟩:=List.mem_map.1 hs;show k<k+1;omega
theorem fU(wd:Nat):∀(ps:List (List Nat×List Nat))(k:Nat),(eK wd k ps).length<=wd * ps.length
 | [],_=>by simp[eK]
 |p::ps,k=>by have ih:=fU wd ps (k+1);have h1:(su wd p.1 p.2).length<=wd:=Nat.le_trans (List.length_filter_le ..) (by simp);rw[eK,List.length_append,List.length_map,List.length_cons,Nat.mul_succ];omega
noncomputable def chG(ns:List Int)(k:Nat):Nat:=([97,98,32,35]:List Nat).getD (dh ns k 4).toNat 0
def IV(ns:List Int)(k:Nat):ixD (.str [97,98,32,35]) (.int (dh ns k 4))=some (.str [chG ns k]):=by
 have h:=bw ns k (m:=4) (by decide);unfold chG;generalize dh ns k 4=v at h;have:v=0\/v=1\/v=2\/v=3:=by omega
 rcases this with rfl|rfl|rfl|rfl <;> rfl
def AD(ns:List Int)(k:Nat):32<=chG ns k/\chG ns k<=126:=by
 have h:=bw ns k (m:=4) (by decide);unfold chG;generalize dh ns k 4=v at h;have:v=0\/v=1\/v=2\/v=3:=by omega
 rcases this with rfl|rfl|rfl|rfl <;> decide
noncomputable def Ee(ns:List Int)(a wd:Nat)(x:List Nat):List Nat:=
 if dh ns a 4=0 then xE ns (a+1) wd else if dh ns a 4<3 then x.take (dh ns (a+30) wd).toNat++[chG ns (a+31)]++x.drop ((dh ns (a+30) wd).toNat+1)else x
def FA(ns:List Int)(a:Nat){wd:Nat}(hw:1<=wd){x:List Nat}(hl:x.length=wd)(hp:aX x=true):aX (Ee ns a wd x)=true/\(Ee ns a wd x).length=wd:=by
 have h:=bw ns (a+30) (m:=(wd:Int)) (by omega);unfold Ee;split;·exact⟨oV _ _ _,nz _ _ _⟩
 ·split;·have hc:=AD ns (a+31);refine⟨rA (rA (xr _ hp) ?_) (xz _ hp),by simp;omega⟩;simp[aX,hc.1,hc.2]
  ·exact⟨hp,hl⟩
noncomputable def gTx(ns:List Int)(a wd k:Nat)(r:D):List Nat:=fo (Ee ns (a+40 * k) wd (tq r)) [32]
noncomputable def mD(ns:List Int)(a wd:Nat):Nat->List D->List (List Nat)
 |_,[]=>[]
 |k,r::rs=>gTx ns a wd k r::mD ns a wd (k+1) rs
theorem iE(ns:List Int)(a wd:Nat):∀(rs:List D)(k:Nat),(mD ns a wd k rs).length=rs.length
 | [],_=>rfl
 |r::rs,k=>by rw[mD,List.length_cons,iE ns a wd rs,List.length_cons]
theorem vM(ns:List Int)(a:Nat){wd:Nat}(hw:1<=wd):∀(rs:List D)(k:Nat),ki rs wd->∀x∈mD ns a wd k rs,aX x=true/\x.length<=wd
 | [],_,_,x,h=>by cases h
 |r::rs,k,hr,x,h=>by
  rcases List.mem_cons.1 h with rfl|h;·obtain⟨y,rfl,h1,h2⟩:=hr r (List.mem_cons_self ..);obtain⟨a1,a2⟩:=FA ns (a+40 * k) hw h1 h2;exact yH a1 (by show(Ee ns (a+40 * k) wd y).length<=wd;omega)
  ·exact vM ns a hw rs (k+1) (λr m=>hr r (List.mem_cons_of_mem _ m)) x h
theorem rC(ns:List Int)(fz:Bool)(a:Nat){wd:Nat}(hw:1<=wd)(hw2:wd<=40)(rows:D)(p:D):∀(rs:List D)(k:Nat)(x4 x5 x6 x7:Option Sl)(acc:List D),ki rs wd->acc.length+rs.length<=100->∃y4 y5 y6 y7,cg (ur [4,5]) (gy fu DI) (br k rs) [some (.val (.lst fz (ns.map .int))),some (.val (.int (a:Int))),some (.val (.tup [.int (wd:Int),rows,p])),some (.own acc),x4,x5,x6,x7]
  = .nx [some (.val (.lst fz (ns.map .int))),some (.val (.int (a:Int))),some (.val (.tup [.int (wd:Int),rows,p])),some (.own (acc++(mD ns a wd k rs).map .str)),y4,y5,y6,y7]
 | [],k,x4,x5,x6,x7,acc,_,_=>⟨x4,x5,x6,x7,by rw[kY,qm,mD,List.map_nil,List.append_nil]⟩
 |r::rs,k,x4,x5,x6,x7,acc,hr,ha=>by
  simp only[List.length_cons]at ha;obtain⟨x,rfl,h1,h2⟩:=hr r (List.mem_cons_self ..);have hB:∃y5 y6 y7,gy fu DI [some (.val (.lst fz (ns.map .int))),some (.val (.int (a:Int))),some (.val (.tup [.int (wd:Int),rows,p])),some (.own acc),some (.val (.int (k:Int))),some (.val (.str x)),x6,x7]
    = .nx [some (.val (.lst fz (ns.map .int))),some (.val (.int (a:Int))),some (.val (.tup [.int (wd:Int),rows,p])),some (.own (acc++[.str (fo (Ee ns (a+40 * k) wd x) [32])])),some (.val (.int (k:Int))),y5,y6,y7]:=by
   have lb:=wa;have hpk:=bw ns (a+40 * k) (m:=4) (by decide);have hps:=bw ns (a+40 * k+30) (m:=(wd:Int)) (by omega);obtain⟨sp,esp⟩:=Int.eq_ofNat_of_zero_le hps.1;have m1:gB (.int 40) (.int (k:Int))=some (.int ((40 * k:Nat):Int)):=by rw[DB (by decide)];congr 2
   have k1:(a:Int)+((40 * k:Nat):Int)=((a+40 * k:Nat):Int):=by omega
   have k2:((a+40 * k:Nat):Int)+1=((a+40 * k+1:Nat):Int):=by omega
   have k3:((a+40 * k:Nat):Int)+30=((a+40 * k+30:Nat):Int):=by omega
   have k4:((a+40 * k:Nat):Int)+31=((a+40 * k+31:Nat):Int):=by omega
   have k5:(sp:Int)+1=((sp+1:Nat):Int):=by omega
   have p1:fu [.lst fz (ns.map .int),.int ((a+40 * k:Nat):Int),.int 4]=.ok (.int (dh ns (a+40 * k) 4)):=cj (by decide);have p2:fu [.lst fz (ns.map .int),.int ((a+40 * k+30:Nat):Int),.int (wd:Int)]=.ok (.int (sp:Int)):=by rw[<- esp];exact cj (by omega)
   have p3:fu [.lst fz (ns.map .int),.int ((a+40 * k+31:Nat):Int),.int 4]=.ok (.int (dh ns (a+40 * k+31) 4)):=cj (by decide);have r1:DI [.lst fz (ns.map .int),.int ((a+40 * k+1:Nat):Int),.int (wd:Int)]=.ok (.str (xE ns (a+40 * k+1) wd)):=vX (by omega);have c1:=IV ns (a+40 * k+31);have y0:=KC (.int (wd:Int)) rows p;have d1:=Km x sp;have d2:=C6 x (sp+1);have a1:bJ (.str (x.take sp)) (.str [chG ns (a+40 * k+31)])=some (.str (x.take sp++[chG ns (a+40 * k+31)])):=um (by simp;omega);have a2:bJ (.str (x.take sp++[chG ns (a+40 * k+31)])) (.str (x.drop (sp+1)))=some (.str (x.take sp++[chG ns (a+40 * k+31)]++x.drop (sp+1))):=um (by simp;omega);have z:acc.length<sizeLine:=by omega
   have o3:∀(a0 a1 a2 a4 a5 a6 a7:Option Sl)(ds:List D),ownAt [a0,a1,a2,some (.own ds),a4,a5,a6,a7] 3=.ok ds:=λ_ _ _ _ _ _ _ _=>rfl;have kd:∀z:List Nat,mf "str" (.str z)=true:=λ_=>rfl;have rs':∀z w:List Nat,kG (.str z) [.str w]=some (.str (fo z w)):=λ_ _=>rfl;unfold gy Ee;rw[esp,Int.toNat_natCast];by_cases q:dh ns (a+40 * k) 4=0
   ·refine⟨some (.val (.str (xE ns (a+40 * k+1) wd))),some (.val (.int (dh ns (a+40 * k) 4))),x7,?_⟩;have q1:(dh ns (a+40 * k) 4==0)=true:=by simp[q]
    rw[if_pos q];clear hr ha h1 h2 lb hpk hps esp q
    walk_at "run"
   ·have q1:(dh ns (a+40 * k) 4==0)=false:=by simp[q]
    rw[if_neg q];by_cases q2:dh ns (a+40 * k) 4<3
    ·refine⟨some (.val (.str (x.take sp++[chG ns (a+40 * k+31)]++x.drop (sp+1)))),some (.val (.int (dh ns (a+40 * k) 4))),some (.val (.int (sp:Int))),?_⟩;have q3:decide (dh ns (a+40 * k) 4<3)=true:=by simp[q2]
     rw[if_pos q2];clear hr ha h1 h2 lb hpk hps esp q q2
     walk_at "run"
    ·refine⟨some (.val (.str x)),some (.val (.int (dh ns (a+40 * k) 4))),x7,?_⟩;have q3:decide (dh ns (a+40 * k) 4<3)=false:=by simp;omega
     rw[if_neg q2];clear hr ha h1 h2 lb hpk hps esp q q2
     walk_at "run"
  obtain⟨z5,z6,z7,hB⟩:=hB;obtain⟨y4,y5,y6,y7,ih⟩:=rC ns fz a hw hw2 rows p rs (k+1) (some (.val (.int (k:Int)))) z5 z6 z7 (acc++[.str (fo (Ee ns (a+40 * k) wd x) [32])]) (λr m=>hr r (List.mem_cons_of_mem _ m)) (by simp;omega);refine⟨y4,y5,y6,y7,?_⟩;rw[jB,dX rfl hB,ih,mD,List.map_cons,List.append_assoc];rfl
noncomputable def xA(ns:List Int)(a wd:Nat)(rows:List D):List (List Nat):=(mD ns a wd 0 rows).take (rows.length - (dh ns (a+399) 2).toNat)
noncomputable abbrev vL(f:Bool)(n:List Int):Option Sl:=some (.val (.lst f (n.map .int)))
noncomputable abbrev vI(n:Nat):Option Sl:=some (.val (.int (n:Int)))
noncomputable abbrev vD(d:D):Option Sl:=some (.val d)
noncomputable abbrev vS(x:List Nat):Option Sl:=some (.val (.str x))
noncomputable abbrev vO(c p:Addr)(f:List (Nat×Fd)):Option Sl:=some (.obj true c p f)
noncomputable def LH:List D->R D:=λds=>ak (kE lv (aj 1 ds))
noncomputable def goG:List D->R D:=λds=>ak (nL Be (aj 1 ds))
noncomputable def MQ:List D->R D:=λds=>ak (ie LH goG (aj 1 ds))
noncomputable def ckG(C:Addr):List D->R D:=λds=>ak (dZ MQ C (aj 1 ds))
noncomputable def Ig(C:Addr):List D->R D:=λds=>ak (dE (ckG C) C (aj 2 ds))
noncomputable def isS:Od->Bool
 |.say _=>true
 |_=>false
noncomputable def isG:Od->Bool
 |.go _ _=>true
 |_=>false
def Lm{o:Od}(h:okO o=true):LH [oD o]=.ok (.bl (isS o)):=by
 cases o with
 |say x=>
  simp only[okO,Bool.and_eq_true,decide_eq_true_eq]at h;have i1:lv [.str x]=.ok (.bl true):=by rw[rh (by omega),h.1]
  have d1:decide ((1:Int)<=(x.length:Int))=true:=by rw[decide_eq_true_eq];omega
  have d2:decide ((x.length:Int)<=40)=true:=by rw[decide_eq_true_eq];omega
  have e1:fD [oD (.say x)]=some (.int 2):=rfl;have e2:ixD (oD (.say x)) (.int 0)=some (.str [115,97,121]):=rfl;have e3:ixD (oD (.say x)) (.int 1)=some (.str x):=rfl;have q0:eqF (.str [115,97,121]) (.str [115,97,121])=some (.bl true):=rfl;show ak (ao _ _ [vD (oD (.say x))])=.ok (.bl true)
  walk_at "run"
 |go r c=>rfl
 |wipe=>rfl
def OF{o:Od}(h:okO o=true):goG [oD o]=.ok (.bl (isG o)):=by
 cases o with
 |go r c=>
  simp only[okO,Bool.and_eq_true,decide_eq_true_eq]at h;have i1:Be [.int (r:Int),.int 0,.int 11]=.ok (.bl true):=by show R.ok (D.bl (decide (0<=(r:Int)) && decide ((r:Int)<=11)))=_;rw[decide_eq_true (by omega),decide_eq_true (by omega)];rfl
  have i2:Be [.int (c:Int),.int 0,.int 40]=.ok (.bl true):=by show R.ok (D.bl (decide (0<=(c:Int)) && decide ((c:Int)<=40)))=_;rw[decide_eq_true (by omega),decide_eq_true (by omega)];rfl
  have e1:fD [oD (.go r c)]=some (.int 3):=rfl;have e2:ixD (oD (.go r c)) (.int 0)=some (.str [103,111]):=rfl;have e3:ixD (oD (.go r c)) (.int 1)=some (.int (r:Int)):=rfl;have e4:ixD (oD (.go r c)) (.int 2)=some (.int (c:Int)):=rfl;have q0:neF (.str [103,111]) (.str [103,111])=some (.bl false):=rfl;have q2:wB (.int 12) (.int 1)=some (.int 11):=rfl;show ak (ao _ _ [vD (oD (.go r c))])=.ok (.bl true)
  walk_at "run"
 |say x=>rfl
 |wipe=>rfl
def Ls{o:Od}(h:okO o=true):MQ [oD o]=.ok (.bl true):=by
 have h1:=Lm h;have h2:=OF h;have e1:kX (·=="tuple") (oD o)=.ok (.bl true):=by cases o <;> rfl
 have e2:mkT [.str [119,105,112,101]]=.ok (oD .wipe):=rfl;have e3:eqF (oD .wipe) (oD .wipe)=some (.bl true):=rfl;show ak (ao _ _ [vD (oD o)])=_;cases o with
 |say x=>change _=R.ok (D.bl true)at h1;generalize oD (.say x)=u at *;walk_at "run"
 |go r c=>change _=R.ok (D.bl false)at h1;change _=R.ok (D.bl true)at h2;generalize oD (.go r c)=u at *;walk_at "run"
 |wipe=>change _=R.ok (D.bl false)at h1;change _=R.ok (D.bl false)at h2;generalize oD .wipe=u at *;walk_at "run"
def MZ{o:Od}(h:okO o=true):ckG C [oD o]=.ok .non:=by
 have h1:=Ls h;show ak (ao _ _ [vD (oD o)])=_
 walk_at "run"
def JD{f:Bool}{os:List Od}(h:∀o∈os,okO o=true):Ig C [.lst f (os.map oD)]=.ok .non:=by
 have lp:∀(os:List Od)(x1:Option Sl),(∀o∈os,okO o=true)->∃y1,cg (la 1) (dY (ckG C) C) (os.map oD) [vD (.lst f (os.map oD)),x1]=.nx [vD (.lst f (os.map oD)),y1]:=λos=>by
  generalize vD (.lst f (os.map oD))=x0;induction os with
  |nil=>exact λx1 _=>⟨x1,rfl⟩
  |cons o os ih=>
   intro x1 h;obtain⟨y1,e⟩:=ih (vD (oD o)) λo ho=>h o (List.mem_cons_of_mem _ ho);refine⟨y1,(dX rfl ?_).trans e⟩;have h1:=MZ (C:=C) (h o (List.mem_cons_self ..));unfold dY
   walk_at "run"
 obtain⟨y1,e⟩:=lp os none h;have e1:kX (·=="list") (.lst f (os.map oD))=.ok (.bl true):=rfl;have e2:bI (.lst f (os.map oD))=.ok (os.map oD):=rfl;show ak (ao _ _ [vD (.lst f (os.map oD)),none])=_
 walk_at "run"
noncomputable def ocG:List D->R D:=λds=>ak (fA (aj 1 ds))
def MS(o:Od):ocG [oD o]=.ok (.int (bb o:Int)):=by cases o <;> rfl
noncomputable def coG(C:Addr):List D->R D:=λds=>ak (qo (Ig C) ocG (aj 1 ds))
theorem sA{α:Type}{ge:Ev->R D}(f g:α->D)(tl:Ev):∀(xs:List α)(a:Option Sl),(∀x∈xs,ge (vD (f x)::tl)=.ok (g x))->gW (λ_=>R.ok true) ge (xs.map f) (a::tl)=.ok (xs.map g)
 | [],_,_=>rfl
 |x::xs,a,h=>by have ih:=sA f g tl xs (vD (f x)) λy hy=>h y (List.mem_cons_of_mem _ hy);have h1:=h x (List.mem_cons_self ..);unfold gW at ih⊢;show(fw (ge (vD (f x)::tl))>>=λz=>gX (la 0) (λ_=>R.ok true) ge (xs.map f) (vD (f x)::tl)>>=λzs=>R.ok (z::zs))=_;rw[h1,ih];rfl
def LW:∀os:List Od,Hg [.lst false (os.map λo=>D.int (bb o:Int))]=some (.int ((os.map bb).sum:Nat)):=λos=>by
 have key:pf (os.map λo=>D.int (bb o:Int))=some (os.map λo=>(bb o:Int)):=by
  induction os with
  |nil=>rfl
  |cons o l ih=>rw[List.map_cons,pf,ih];rfl
 have key2:(os.map λo=>(bb o:Int)).sum=((os.map bb).sum:Nat):=by
  clear key;induction os with
  |nil=>rfl
  |cons o l ih=>rw[List.map_cons,List.sum_cons,ih,List.map_cons,List.sum_cons,Int.natCast_add]
 simp only[Hg,key,key2]
def NP{f:Bool}{os:List Od}(h:∀o∈os,okO o=true)(hl:os.length<=1000):coG C [.lst f (os.map oD)]=.ok (.int ((os.map bb).sum:Nat)):=by
 have h1:=JD (C:=C) (f:=f) h;have c1:=sA (ge:=az 1 ocG (ac (rvz 0) nlz)) oD (λo=>.int (bb o:Int)) [] os none (λo _=>by rw[zf,show ∀i ρ,rvz i ρ=rdV ρ i from λ_ _=>rfl,rd0,R.ok_bind,MS]);have e2:bI (.lst f (os.map oD))=.ok (os.map oD):=rfl;have z:(os.map λo=>D.int (bb o:Int)).length<=sizeLine:=by have:=bo;rw[List.length_map];omega
 have sm:=LW os;have i0:∀x:Option Sl,jm [] [x]=[none]:=λ_=>rfl;show ak (ao _ _ [vD (.lst f (os.map oD))])=_
 walk_at "run"
noncomputable def jnG:List D->R D:=λds=>ak (cV (aj 3 ds))
def NT{o p:Od}(hn:qQ o+qQ p<=1000):jnG [oD o,oD p]=.ok (jD (fk o p)):=by
 cases o with
 |say x=>
  cases p with
  |say y=>
   simp only[qQ]at hn;have a1:bJ (.str x) (.str y)=some (.str (x++y)):=um (by have:=bo;omega);have x0:∀z:List Nat,ixD (oD (.say z)) (.int 0)=some (.str [115,97,121]):=λ_=>rfl;have x1:∀z:List Nat,ixD (oD (.say z)) (.int 1)=some (.str z):=λ_=>rfl;have q0:neF (.str [115,97,121]) (.str [115,97,121])=some (.bl false):=rfl;have m2:∀v:List Nat,mkT [.str [115,97,121],.str v]=.ok (oD (.say v)):=λ_=>rfl;have ej:fk (.say x) (.say y)=if x.length+y.length<=40 then some (.say (x++y))else none:=rfl;show ak (ao _ _ [vD (oD (.say x)),vD (oD (.say y)),none])=_;rw[ej];by_cases h:x.length+y.length<=40
   ·have d1:decide (((x++y).length:Int)<=40)=true:=by rw[decide_eq_true_eq,List.length_append];omega
    have e9:jD (if x.length+y.length<=40 then some (.say (x++y))else none)=oD (.say (x++y)):=by rw[if_pos h];rfl
    rw[e9]
    walk_at "run"
   ·have d1:decide (((x++y).length:Int)<=40)=false:=by rw[decide_eq_false_iff_not,List.length_append];omega
    have e9:jD (if x.length+y.length<=40 then some (.say (x++y))else none)=.non:=by rw[if_neg h];rfl
    rw[e9]
    walk_at "run"
  |go r c=>rfl
  |wipe=>rfl
 |go r c=>cases p <;> rfl
 |wipe=>cases p <;> rfl
def B4{l o j:Od}(h:fk l o=some j)(h1:okO l=true)(h2:okO o=true):okO j=true:=by
 cases l <;> cases o <;> first|(simp[fk]at h;done)|skip
 ·simp only[fk]at h;split at h;·cases h;simp only[okO,Bool.and_eq_true,decide_eq_true_eq]at *;exact⟨fS h1.1 h2.1,by simp;omega,by simp;omega⟩
  ·cases h
 ·simp only[fk,Option.some.injEq]at h;subst h;exact h2
 ·simp only[fk,Option.some.injEq]at h;subst h;exact h2
def pZ{acc:List Od}{o:Od}(h1:∀p∈acc,okO p=true)(h2:okO o=true):∀p∈eA acc o,okO p=true:=by
 rcases Bx acc with rfl|⟨a,l,rfl⟩;·intro p hp;rw[List.mem_singleton.1 hp];exact h2
 ·cases hj:fk l o with
  |none=>
   intro p hp;rw[jW hj]at hp;rcases List.mem_append.1 hp with hp|hp;·exact h1 p hp
   ·rw[List.mem_singleton.1 hp];exact h2
  |some j=>
   intro p hp;rw[iQ hj]at hp;rcases List.mem_append.1 hp with hp|hp;·exact h1 p (List.mem_append_left _ hp)
   ·rw[List.mem_singleton.1 hp];exact B4 hj (h1 l (by simp)) h2
theorem wG:∀(os acc:List Od),(∀p∈acc,okO p=true)->(∀p∈os,okO p=true)->∀p∈os.foldl eA acc,okO p=true
 | [],acc,h,_=>h
 |o::os,acc,h1,h2=>wG os (eA acc o) (pZ h1 (h2 o (List.mem_cons_self ..))) λp hp=>h2 p (List.mem_cons_of_mem _ hp)
theorem iC:∀(os acc:List Od),(os.foldl eA acc).length<=acc.length+os.length/\((os.foldl eA acc).map bb).sum<=(acc.map bb).sum+(os.map bb).sum
 | [],acc=>by simp
 |o::os,acc=>by obtain⟨_,a2,a3⟩:=vG acc o;obtain⟨b2,b3⟩:=iC os (eA acc o);simp only[List.foldl_cons,List.length_cons,List.map_cons,List.sum_cons];omega
def FY{os:List Od}(h:∀o∈os,okO o=true):∀o∈shO os,okO o=true:=wG os [] (λ_ h=>by cases h) h
def Ek{o:Od}(h:okO o=true):qQ o<=40:=by
 cases o with
 |say x=>simp only[okO,Bool.and_eq_true,decide_eq_true_eq]at h;exact h.2.2
 |_=>exact Nat.zero_le _
noncomputable def shG(C:Addr):List D->R D:=λds=>ak (gm (Ig C) jnG (aj 4 ds))
def Ih{F:List D->R D}(x0 x3:Option Sl)(acc:List Od)(o:Od)(hs:∀p∈acc,okO p=true)(ho:okO o=true)(ha:acc.length<1000):∃y3,eX F jnG [x0,some (.own (acc.map oD)),vD (oD o),x3]=.nx [x0,some (.own ((eA acc o).map oD)),vD (oD o),y3]:=by
 have z:(acc.map oD).length<sizeLine:=by have:=bo;rw[List.length_map];omega
 have ng1:wZ (.int 1)=.ok (.int (-1)):=rfl;have i1:isF .non .non=some (.bl true):=rfl;have i2:∀o:Od,isF (oD o) .non=some (.bl false):=λo=>by cases o <;> rfl
 have fl1:=Mr;have fl2:fl 10 .non=true:=rfl;unfold eX;rcases Bx acc with rfl|⟨a,l,rfl⟩;·exact⟨vD .non,rfl⟩
 ·have em:(a++[l]).map oD=a.map oD++[oD l]:=by simp
  have ej:=NT (o:=l) (p:=o) (by have:=Ek (hs l (by simp));have:=Ek ho;omega);rw[em]at z⊢;have q1:decide ((0:Int)<((a.map oD++[oD l]).length:Int))=true:=by rw[decide_eq_true_eq,List.length_append];show(0:Int)<((_+1:Nat):Int);omega
  have ixl:ixN (a.map oD++[oD l]).length (-1)=some (a.map oD).length:=by
   unfold ixN
   congr 1;simp;omega
  have l1:ixD (.lst false (a.map oD++[oD l])) (.int (-1))=some (oD l):=by show atI (a.map oD++[oD l]) (-1)=_;unfold atI;rw[ixl];simp
  cases hj:fk l o with
  |none=>
   rw[hj]at ej;change _=R.ok D.non at ej;refine⟨vD .non,?_⟩;rw[show(eA (a++[l]) o).map oD=a.map oD++[oD l]++[oD o] by rw[jW hj];simp]
   walk_at "run"
  |some j=>
   rw[hj]at ej;change _=R.ok (oD j)at ej;refine⟨vD (oD j),?_⟩;have sl:(a.map oD++[oD l]).set (a.map oD).length (oD j)=a.map oD++[oD j]:=by simp
   rw[show(eA (a++[l]) o).map oD=a.map oD++[oD j] by rw[iQ hj];simp]
   walk_at "run"
theorem Es{F:List D->R D}(x0:Option Sl):∀(os acc:List Od)(x2 x3:Option Sl),(∀p∈acc,okO p=true)->(∀o∈os,okO o=true)->acc.length+os.length<=1000->∃y2 y3,cg (la 2) (eX F jnG) (os.map oD) [x0,some (.own (acc.map oD)),x2,x3]=.nx [x0,some (.own ((os.foldl eA acc).map oD)),y2,y3]
 | [],acc,x2,x3,_,_,_=>⟨x2,x3,rfl⟩
 |o::os,acc,x2,x3,h1,h2,hl=>by have ho:=h2 o (List.mem_cons_self ..);rw[List.length_cons]at hl;obtain⟨y3,e⟩:=Ih x0 x3 acc o h1 ho (by omega);obtain⟨z2,z3,ih⟩:=Es x0 os (eA acc o) (vD (oD o)) y3 (pZ h1 ho) (λp hp=>h2 p (List.mem_cons_of_mem _ hp)) (by have:=(vG acc o).2.1;omega);exact⟨z2,z3,(dX rfl e).trans ih⟩
def M9{f:Bool}{os:List Od}(h:∀o∈os,okO o=true)(hl:os.length<=1000):shG C [.lst f (os.map oD)]=.ok (.lst false ((shO os).map oD)):=by
 have h1:=JD (C:=C) (f:=f) h;obtain⟨y2,y3,e⟩:=Es (F:=Ig C) (vD (.lst f (os.map oD))) os [] none none (λ_ h=>by cases h) h (by rw[List.length_nil];omega);have e2:bI (.lst f (os.map oD))=.ok (os.map oD):=rfl;show ak (ao _ _ [vD (.lst f (os.map oD)),none,none,none])=_;rw[List.map_nil]at e;have z:(0<=sizeLine)=True:=eq_true (Nat.zero_le _);unfold shO
 walk_at "run"
noncomputable def wrG:List D->R D:=λds=>ak (cz (aj 5 ds))
noncomputable def asG(C:Addr):List D->R D:=λds=>ak (gK wrG C (aj 5 ds))
noncomputable def agG(C:Addr):List D->R D:=λds=>ak (ip C (aj 3 ds))
noncomputable def awG:List D->R D:=λds=>ak (fq wrG (aj 3 ds))
noncomputable def aoG(C:Addr):List D->R D:=λds=>ak (eM (asG C) (agG C) awG (aj 2 ds))
section
variable{wd r c:Nat}{rows:List (List Nat)}
def sx0:ixD (sD (wd,rows,r,c)) (.int 0)=some (.int (wd:Int)):=rfl
def sx1:ixD (sD (wd,rows,r,c)) (.int 1)=some (.tup (rows.map .str)):=rfl
def sx2:ixD (sD (wd,rows,r,c)) (.int 2)=some (.tup [.int (r:Int),.int (c:Int)]):=rfl
def rx0:ixD (.tup [.int (r:Int),.int (c:Int)]) (.int 0)=some (.int (r:Int)):=rfl
def rx1:ixD (.tup [.int (r:Int),.int (c:Int)]) (.int 1)=some (.int (c:Int)):=rfl
def LQ(hr:r<rows.length):ixD (.tup (rows.map .str)) (.int (r:Int))=some (.str (rows.getD r [])):=by refine HC ?_;rw[List.getElem?_map,List.getElem?_eq_getElem hr,List.getD_eq_getElem?_getD,List.getElem?_eq_getElem hr];rfl
def Nm{x:List Nat}(hr:r<rows.length)(hm:rows.length<=100):wrG [sD (wd,rows,r,c),.str x,.int (j:Int)]=.ok (sD (wd,rows.set r x,r,j)):=by
 have x0:=sx0 (wd:=wd) (r:=r) (c:=c) (rows:=rows);have x1:=sx1 (wd:=wd) (r:=r) (c:=c) (rows:=rows);have x2:=sx2 (wd:=wd) (r:=r) (c:=c) (rows:=rows);have x3:=rx0 (r:=r) (c:=c);have c1:=Aa (rows.map D.str) r;have c2:km (rows.map D.str) (some ((r:Int)+1)) none=(rows.map D.str).drop (r+1):=yG _ (r+1);have k1:∀x,mkT [x]=.ok (.tup [x]):=λ_=>rfl;have k2:∀x y,mkT [x,y]=.ok (.tup [x,y]):=λ_ _=>rfl;have k3:∀x y z,mkT [x,y,z]=.ok (.tup [x,y,z]):=λ_ _ _=>rfl;have a1:bJ (.tup ((rows.map D.str).take r)) (.tup [.str x])=some (.tup ((rows.map D.str).take r++[.str x])):=Ip (by have:=bo;simp;omega);have a2:bJ (.tup ((rows.map D.str).take r++[.str x])) (.tup ((rows.map D.str).drop (r+1)))=some (.tup ((rows.set r x).map D.str)):=by rw[<- Cg rows r x hr];exact Ip (by have:=bo;simp;omega)
 show ak (ao _ _ [vD (sD (wd,rows,r,c)),vD (.str x),vI j,none,none])=.ok (.tup [.int (wd:Int),.tup ((rows.set r x).map D.str),.tup [.int (r:Int),.int (j:Int)]])
 walk_at "run"
def Os{s:St}{o:Od}(h:GS s)(ho:okO o=true):aoG C [sD s,oD o]=Jo C (aW s o):=by
 obtain⟨wd,rows,r,c⟩:=s;have hr:r<rows.length:=h.r;have hm:rows.length<=12:=h.m;have hc:c<=wd:=h.c;have hw:=h.w2;have hl:=(h.l _ (gG hr)).1;have x0:=sx0 (wd:=wd) (r:=r) (c:=c) (rows:=rows);have x1:=sx1 (wd:=wd) (r:=r) (c:=c) (rows:=rows);have x2:=sx2 (wd:=wd) (r:=r) (c:=c) (rows:=rows);have x3:=rx0 (r:=r) (c:=c);have x4:=rx1 (r:=r) (c:=c);have x5:=LQ hr;have wr:=λx j=>Nm (wd:=wd) (c:=c) (x:=x) (j:=j) hr (by omega);have n1:eqF (.str [103,111]) (.str [115,97,121])=some (.bl false):=rfl;have n2:eqF (.str [119,105,112,101]) (.str [115,97,121])=some (.bl false):=rfl;have n3:eqF (.str [119,105,112,101]) (.str [103,111])=some (.bl false):=rfl;have n4:eqF (.str [103,111]) (.str [103,111])=some (.bl true):=rfl;have n5:eqF (.str [115,97,121]) (.str [115,97,121])=some (.bl true):=rfl;cases o with
 |say x=>
  simp only[okO,Bool.and_eq_true,decide_eq_true_eq]at ho;have o0:ixD (oD (.say x)) (.int 0)=some (.str [115,97,121]):=rfl;have o1:ixD (oD (.say x)) (.int 1)=some (.str x):=rfl;have e:asG C [sD (wd,rows,r,c),.str x]=Jo C (aW (wd,rows,r,c) (.say x)):=by
   have es:aW (wd,rows,r,c) (.say x)=if wd<c+x.length then none else some (wd,rows.set r ((rows.getD r []).take c++x++(rows.getD r []).drop (c+x.length)),r,c+x.length):=rfl;rw[es];generalize rows.getD r []=row at *;have c1:=Aa row c;have c2:=yG row (c+x.length);have a1:bJ (.str (row.take c)) (.str x)=some (.str (row.take c++x)):=um (by have:=bo;simp;omega);have a2:bJ (.str (row.take c++x)) (.str (row.drop (c+x.length)))=some (.str (row.take c++x++row.drop (c+x.length))):=um (by have:=bo;simp;omega);have a3:bJ (.int (c:Int)) (.int (x.length:Int))=some (.int ((c+x.length:Nat):Int)):=rfl;show ak (ao _ _ [vD (sD (wd,rows,r,c)),vD (.str x),none,none,none])=_;by_cases hn:wd<c+x.length
   ·have d1:decide ((wd:Int)<((c+x.length:Nat):Int))=true:=by rw[decide_eq_true_eq];omega
    rw[if_pos hn];show _=R.ex C
    walk_at "run"
   ·have d1:decide ((wd:Int)<((c+x.length:Nat):Int))=false:=by rw[decide_eq_false_iff_not];omega
    rw[if_neg hn];show _=R.ok (sD (wd,rows.set r (row.take c++x++row.drop (c+x.length)),r,c+x.length))
    walk_at "run"
  show ak (ao _ _ [vD (sD (wd,rows,r,c)),vD (oD (.say x))])=_;generalize aW (wd,rows,r,c) (.say x)=z at e⊢;cases z <;> simp only[Jo]at e⊢ <;> walk_at "run"
 |go n k=>
  have o0:ixD (oD (.go n k)) (.int 0)=some (.str [103,111]):=rfl;have o1:ixD (oD (.go n k)) (.int 1)=some (.int (n:Int)):=rfl;have o2:ixD (oD (.go n k)) (.int 2)=some (.int (k:Int)):=rfl;have e:agG C [sD (wd,rows,r,c),.int (n:Int),.int (k:Int)]=Jo C (aW (wd,rows,r,c) (.go n k)):=by
   have es:aW (wd,rows,r,c) (.go n k)=if rows.length<=n\/wd<k then none else some (wd,rows,n,k):=rfl;have ln:fD [.tup (rows.map .str)]=some (.int (rows.length:Int)):=by rw[IW,List.length_map]
   have k2:mkT [.int (n:Int),.int (k:Int)]=.ok (.tup [.int (n:Int),.int (k:Int)]):=rfl;have k3:mkT [.int (wd:Int),.tup (rows.map .str),.tup [.int (n:Int),.int (k:Int)]]=.ok (sD (wd,rows,n,k)):=rfl;rw[es];show ak (ao _ _ [vD (sD (wd,rows,r,c)),vI n,vI k])=_;by_cases h1:rows.length<=n
   ·have d1:decide ((rows.length:Int)<=(n:Int))=true:=by rw[decide_eq_true_eq];omega
    rw[if_pos (.inl h1)];show _=R.ex C
    walk_at "run"
   ·have d1:decide ((rows.length:Int)<=(n:Int))=false:=by rw[decide_eq_false_iff_not];omega
    by_cases h2:wd<k
    ·have d2:decide ((wd:Int)<(k:Int))=true:=by rw[decide_eq_true_eq];omega
     rw[if_pos (.inr h2)];show _=R.ex C
     walk_at "run"
    ·have d2:decide ((wd:Int)<(k:Int))=false:=by rw[decide_eq_false_iff_not];omega
     rw[if_neg (by omega)];show _=R.ok (sD (wd,rows,n,k))
     walk_at "run"
  show ak (ao _ _ [vD (sD (wd,rows,r,c)),vD (oD (.go n k))])=_;generalize aW (wd,rows,r,c) (.go n k)=z at e⊢;cases z <;> simp only[Jo]at e⊢ <;> walk_at "run"
 |wipe=>
  have o0:ixD (oD .wipe) (.int 0)=some (.str [119,105,112,101]):=rfl;have e:awG [sD (wd,rows,r,c)]=.ok (sD (wd,rows.set r ((rows.getD r []).take c++List.replicate (wd - c) 32),r,c)):=by
   have wx:=wr ((rows.getD r []).take c++List.replicate (wd - c) 32) c;generalize rows.getD r []=row at *;have c1:=Aa row c;have lt:(row.take c).length=c:=by simp;omega
   have j1:jg (.str (row.take c)) [.int (wd:Int)]=some (.str (row.take c++List.replicate (wd - c) 32)):=by simp only[jg,lt,Int.toNat_natCast];rw[if_pos (by omega)]
   have kd:∀x,mf "str" (.str x)=true:=λ_=>rfl;show ak (ao _ _ [vD (sD (wd,rows,r,c)),none,none])=_;clear wr h hl hw hc hm hr lt
   walk_at "run"
  show ak (ao _ _ [vD (sD (wd,rows,r,c)),vD (oD .wipe)])=.ok (sD (wd,rows.set r ((rows.getD r []).take c++List.replicate (wd - c) 32),r,c))
  walk_at "run"
end
noncomputable def arG(C:Addr):List D->R D:=λds=>ak (ik (jd C) lv (aj 2 ds))
noncomputable def crG(C:Addr):List D->R D:=λds=>ak (dj (arG C) C (aj 2 ds))
noncomputable def frG:List D->R D:=λds=>ak (gJ (aj 4 ds))
noncomputable def He:List D->R D:=λds=>ak (im fu DI (aj 8 ds))
noncomputable def KB:List D->R D:=λds=>ak (iy (aj 3 ds))
noncomputable def eJ(n wd:Nat)(xs:List (List Nat)):List (List Nat):=xs.map (Ck wd)++List.replicate (n - xs.length) (List.replicate wd 32)
section
variable{s:St}{xs:List (List Nat)}{f:Bool}
def qu(hx:cw s.2.1.length s.1 xs=true):xs.length<=s.2.1.length/\∀x∈xs,aX x=true/\x.length<=s.1:=by simp only[cw,txt,Bool.and_eq_true,decide_eq_true_eq,List.all_eq_true]at hx;exact hx
def KR(h:GS s)(hx:cw s.2.1.length s.1 xs=true):arG C [sD s,.lst f (xs.map .str)]=.ok (.bl true):=by
 obtain⟨h1,h2⟩:=qu hx;have hm:=h.m;have hw:=h.w2;have c1:=nC (C:=C) h.screen;have x0:ixD (sD s) (.int 0)=some (.int (s.1:Int)):=rfl;have x1:ixD (sD s) (.int 1)=some (.tup (s.2.1.map .str)):=rfl;have cm:=sA (ge:=lA (az 1 lv (ac (rvz 0) nlz)) (g2 leD (gOf fD (ac (rvz 0) nlz)) (g2 ixD (rvz 1) (ciz 0)))) D.str (λ_=>.bl true) [vD (sD s)] xs none (λx hx=>by
  obtain⟨p,l⟩:=h2 x hx;have i1:lv [.str x]=.ok (.bl true):=by rw[rh (by omega),p]
  have d1:decide ((x.length:Int)<=(s.1:Int))=true:=by rw[decide_eq_true_eq];omega
  walk_at "run");have z:(xs.map λ_=>D.bl true).length<=sizeLine:=by have:=bo;rw[List.length_map];omega
 have al:BR [.lst false (xs.map λ_=>D.bl true)]=some (.bl true):=by have:=Ja false (xs.map D.str);rw[List.map_map]at this;exact this
 have i1:∀(d:D)(v:Option Sl),jm [0] [vD d,v]=[none,vD d]:=λ_ _=>rfl;have q1:decide (((s.2.1.map D.str).length:Int)<((xs.map D.str).length:Int))=false:=by rw[List.length_map,List.length_map,decide_eq_false_iff_not];omega
 have y1:kX (λx=>x=="list") (.lst f (xs.map .str))=.ok (.bl true):=rfl;have l1:=KF f (xs.map D.str);show ak (ao _ _ [vD (sD s),vD (.lst f (xs.map .str))])=_
 walk_at "run"
def Nx(h:GS s)(hx:cw s.2.1.length s.1 xs=true)(f:Bool):crG C [sD s,.lst f (xs.map .str)]=.ok .non:=by
 have e:=KR (C:=C) (f:=f) h hx;show ak (ao _ _ [vD (sD s),vD (.lst f (xs.map .str))])=_
 walk_at "run"
def zk(h:GS s)(hx:cw s.2.1.length s.1 xs=true):((s.2.1.map D.str).length:Int) - ((xs.map D.str).length:Int)=((s.2.1.length - xs.length:Nat):Int)/\gB (.str [32]) (.int (s.1:Int))=some (.str (List.replicate s.1 32))/\gB (.lst false [.str (List.replicate s.1 32)]) (.int ((s.2.1.length - xs.length:Nat):Int))=some (.lst false (List.replicate (s.2.1.length - xs.length) (.str (List.replicate s.1 32))))/\bJ (.lst false (xs.map λx=>.str (Ck s.1 x))) (.lst false (List.replicate (s.2.1.length - xs.length) (.str (List.replicate s.1 32))))=some (.lst false ((eJ s.2.1.length s.1 xs).map .str))/\(xs.map λx=>D.str (Ck s.1 x)).length<=sizeLine:=by obtain⟨h1,_⟩:=qu hx;have hm:=h.m;have hw:=h.w2;have lb:=bo;refine⟨by rw[List.length_map,List.length_map];omega,HP (by omega),L5 (by omega),?_,by rw[List.length_map];omega⟩;rw[Mg (by rw[List.length_map,List.length_replicate];omega)];unfold eJ;rw[List.map_append,List.map_map,List.map_replicate];rfl
def GB(h:GS s)(hx:cw s.2.1.length s.1 xs=true)(f:Bool):frG [sD s,.lst f (xs.map .str)]=.ok (.lst false ((eJ s.2.1.length s.1 xs).map .str)):=by
 obtain⟨k1,m1,m2,a1,z1⟩:=zk h hx;have hw:=h.w2;have x0:ixD (sD s) (.int 0)=some (.int (s.1:Int)):=rfl;have x1:ixD (sD s) (.int 1)=some (.tup (s.2.1.map .str)):=rfl;have i2:∀(a b c:Option Sl)(d:D),jm [2] [a,b,vD d,c]=[none,vD d]:=λ_ _ _ _=>rfl;have cm:=sA (ge:=va "str" jg (rvz 0) (ac (rvz 1) nlz)) D.str (λx=>.str (Ck s.1 x)) [vD (.int (s.1:Int))] xs none (λx _=>by
  have kd:∀x,mf "str" (.str x)=true:=λ_=>rfl;have j:jg (.str x) [.int (s.1:Int)]=some (.str (Ck s.1 x)):=by simp only[jg,Ck,Int.toNat_natCast];rw[if_pos (by omega)]
  walk_at "run");have il:=KF;have z2:(1<=sizeLine)=True:=eq_true (by decide);show ak (ao _ _ [vD (sD s),vD (.lst f (xs.map .str)),none,none])=_
 walk_at "run"
def JQ(h:GS s)(hx:cw s.2.1.length s.1 xs=true)(f:Bool):KB [sD s,.lst f (xs.map .str)]=.ok (.tup ((eJ s.2.1.length s.1 xs).map .str)):=by
 obtain⟨k1,m1,m2,a1,z1⟩:=zk h hx;obtain⟨_,h2⟩:=qu hx;have hw:=h.w2;have x0:ixD (sD s) (.int 0)=some (.int (s.1:Int)):=rfl;have x1:ixD (sD s) (.int 1)=some (.tup (s.2.1.map .str)):=rfl;have i2:∀(a b:Option Sl)(d:D),jm [0] [vD d,a,b]=[none,vD d]:=λ_ _ _=>rfl;have cm:=sA (ge:=g2 bJ (rvz 0) (g2 gB (csz [32]) (g2 wB (g2 ixD (rvz 1) (ciz 0)) (gOf fD (ac (rvz 0) nlz))))) D.str (λx=>.str (Ck s.1 x)) [vD (sD s)] xs none (λx hx=>by
  have l:=(h2 x hx).2;have s1:(s.1:Int) - (x.length:Int)=((s.1 - x.length:Nat):Int):=by omega
  have s2:gB (.str [32]) (.int ((s.1 - x.length:Nat):Int))=some (.str (List.replicate (s.1 - x.length) 32)):=HP (by omega);have s3:bJ (.str x) (.str (List.replicate (s.1 - x.length) 32))=some (.str (Ck s.1 x)):=um (by have:=bo;rw[List.length_replicate];omega);clear k1 m1 m2 a1 z1 x1 i2 h hx hw l h2;generalize sD s=S at *
  walk_at "run");have il:=KF;have z2:(1<=sizeLine)=True:=eq_true (by decide);have f2:∀(a0 a1:Option Sl)(ds:List D),frz 2 [a0,a1,some (.own ds)]=[a0,a1,some (.val (.lst false ds))]:=λ_ _ _=>rfl;have tt:=tl_ ((eJ s.2.1.length s.1 xs).map D.str);show ak (ao _ _ [vD (sD s),vD (.lst f (xs.map .str)),none])=_;clear h hx hw h2;generalize sD s=S at *;generalize (eJ s.2.1.length s.1 xs).map D.str=GO at *
 walk_at "run"
def IZ{ns:List Int}{a:Nat}(h:GS s):He [.lst fz (ns.map .int),.int (a:Int),sD s]=.ok (.lst false ((xA ns a s.1 (s.2.1.map .str)).map .str)):=by
 have w1:=h.w1;have w2:=h.w2;have n2:=h.m;have hrs:ki (s.2.1.map D.str) s.1:=λr hr=>by obtain⟨x,hx,rfl⟩:=List.mem_map.1 hr;exact⟨x,rfl,h.l x hx⟩
 obtain⟨y4,y5,y6,y7,hL⟩:=rC ns fz a (wd:=s.1) w1 (by omega) (.tup (s.2.1.map .str)) (.tup [.int (s.2.2.1:Int),.int (s.2.2.2:Int)]) (s.2.1.map .str) 0 none none none none [] hrs (by simp;omega);rw[List.nil_append]at hL;change cg _ _ _ [_,_,vD (sD s),_,_,_,_,_]=O.nx [_,_,vD (sD s),_,_,_,_,_]at hL;have hpk:=bw ns (a+399) (m:=2) (by decide);obtain⟨e,ee⟩:=Int.eq_ofNat_of_zero_le hpk.1;have p1:fu [.lst fz (ns.map .int),.int ((a:Int)+399),.int 2]=.ok (.int (e:Int)):=by rw[<- ee];exact cj (n:=a+399) (by decide)
 have k2:(((mD ns a s.1 0 (s.2.1.map .str)).map D.str).length:Int) - (e:Int)=(((s.2.1.map D.str).length - e:Nat):Int):=by have:=h.r;rw[List.length_map,iE,List.length_map];omega
 have d1:=Aa ((mD ns a s.1 0 (s.2.1.map .str)).map D.str) ((s.2.1.map D.str).length - e);have eg:(xA ns a s.1 (s.2.1.map .str)).map D.str=((mD ns a s.1 0 (s.2.1.map .str)).map D.str).take ((s.2.1.map D.str).length - e):=by unfold xA;rw[ee,Int.toNat_natCast,List.map_take]
 rw[eg];have en:pN (.tup (s.2.1.map .str))=.ok (br 0 (s.2.1.map .str)):=rfl;have y1:ixD (sD s) (.int 1)=some (.tup (s.2.1.map .str)):=rfl;have f3:∀(a0 a1 a2 a4 a5 a6 a7:Option Sl)(ds:List D),frz 3 [a0,a1,a2,some (.own ds),a4,a5,a6,a7]=[a0,a1,a2,some (.val (.lst false ds)),a4,a5,a6,a7]:=λ_ _ _ _ _ _ _ _=>rfl;have z0:(0:Nat)<=sizeLine:=Nat.zero_le _;show ak (ao _ _ [vL fz ns,vI a,vD (sD s),none,none,none,none,none])=_;clear hrs hpk ee eg h w1 w2 n2;generalize sD s=S at *
 walk_at "run"
open Classical in
noncomputable def crN:List D->R D:=λds=>if ∃(s:St)(xs:List (List Nat))(f:Bool),GS s/\cw s.2.1.length s.1 xs=true/\ds=[sD s,.lst f (xs.map .str)]then .ok .non else .no
def nX:∀ds:List D,ds.length=2->crN ds=.no\/ak (dj (arG C) C (aj 2 ds))=crN ds:=λds _=>by
 unfold crN;split;·rename_i h;obtain⟨s,xs,f,h,hx,rfl⟩:=h;exact .inr (Nx h hx f)
 ·exact .inl rfl
def IB(h:GS s)(hx:cw s.2.1.length s.1 xs=true)(f:Bool):crN [sD s,.lst f (xs.map .str)]=.ok .non:=if_pos ⟨s,xs,f,h,hx,rfl⟩
end
noncomputable def fZ:Ev->O:=(ao (cF (g2 ixD (rvz 0) (ciz 0))) oNx)
noncomputable def fR(ba:List D->R D):Ev->O:=(ao (oIf (vp (qO true 0 (rvz 1)) (gB2 ltD (az 1 ba (ac (rvz 2) nlz)) (az 1 ba (ac (iz 0 (rvz 1)) nlz)))) (ao (Cq 0 (rvz 1) (rvz 2)) oNx) oNx) oNx)
noncomputable def bq(I_offer:MF)(bc:List D->R D):Ev->O:=(ao (fg (iZ DC 0 2 I_offer (ac (rvz 1) (ac (ax mkT (ac (g2 bJ (g2 ixD (rvz 2) (ciz 0)) (az 1 bc (ac (rvz 3) nlz))) (ac (g2 bJ (g2 ixD (rvz 2) (ciz 1)) (ax mkT (ac (rvz 3) nlz))) nlz))) nlz)))) oNx)
noncomputable def dP(I_offer_with_order:MF):Ev->O:=(oIf (qO false 3 (λ_=>R.ok (D.tup [D.bl false,D.bl false]))) (ao (fg (iZ DC 3 3 I_offer_with_order (ac (λ_=>R.ok (D.tup [D.bl true,D.bl false])) (ac (iz 3 (λ_=>R.ok (D.tup [D.bl false,D.bl false]))) (ac (ax mkT (ac (csz [103,111]) (ac (rvz 1) (ac (rvz 2) nlz)))) nlz))))) oNx) oNx)
noncomputable def dI(I_offer_with_order:MF):Ev->O:=(oIf (qO false 3 (λ_=>R.ok (D.tup [D.bl true,D.bl false]))) (ao (fg (iZ DC 3 3 I_offer_with_order (ac (λ_=>R.ok (D.tup [D.bl true,D.bl true])) (ac (iz 3 (λ_=>R.ok (D.tup [D.bl true,D.bl false]))) (ac (ax mkT (ac (csz [119,105,112,101]) nlz)) nlz))))) oNx) oNx)
noncomputable def dJ(I_offer_with_order:MF):Ev->O:=(oIf (qO false 3 (λ_=>R.ok (D.tup [D.bl false,D.bl true]))) (ao (fg (iZ DC 3 3 I_offer_with_order (ac (λ_=>R.ok (D.tup [D.bl true,D.bl true])) (ac (iz 3 (λ_=>R.ok (D.tup [D.bl false,D.bl true]))) (ac (ax mkT (ac (csz [103,111]) (ac (rvz 1) (ac (rvz 2) nlz)))) nlz))))) oNx) oNx)
noncomputable def jO(I_offer_with_order:MF):Ev->O:=(qZ 3)
noncomputable def gw(I_offer_with_order:MF):Ev->O:=(ao (dP I_offer_with_order) (ao (dI I_offer_with_order) (ao (dJ I_offer_with_order) (ao (jO I_offer_with_order) oNx))))
noncomputable def cb(I_offer_with_order:MF):Addr×Unit->Ev->O:=(Aj 3 (rvz 0) (yE (gw I_offer_with_order)))
noncomputable def eI(I_offer_with_order I_offer:MF):Ev->O:=(ao (eU 6 (g2 ixD (rvz 4) (ciz 1))) (ao (oIf (ax lG (g2 ixD (rvz 4) (ciz 0))) (ao (fg (iZ DC 3 3 I_offer_with_order (ac (ax mkT (ac (λ_=>R.ok (D.bl true)) (ac (rvz 6) nlz))) (ac (rvz 5) (ac (ax mkT (ac (csz [115,97,121]) (ac (rvz 2) nlz))) nlz))))) oNx) oNx) (ao (oIf (gB2 eqF (gIf (ax lG (rvz 6)) (csz [32]) (rvz 1)) (rvz 2)) (ao (fg (iZ DC 3 2 I_offer (ac (ax mkT (ac (λ_=>R.ok (D.bl false)) (ac (rvz 6) nlz))) (ac (rvz 5) nlz)))) oNx) oNx) oNx)))
noncomputable def cE(I_offer_with_order I_offer:MF):Ev->O:=(oN (ur [4,5]) (ax zy (rvz 0)) (eI I_offer_with_order I_offer))
noncomputable def eP(I_offer_with_order I_offer:MF):Ev->O:=(qZ 3)
noncomputable def lR(I_offer_with_order I_offer:MF):Ev->O:=(ao (cE I_offer_with_order I_offer) (ao (eP I_offer_with_order I_offer) oNx))
noncomputable def ca(I_offer_with_order I_offer:MF):Addr×Unit->Ev->O:=(Ed 3 (yE (lR I_offer_with_order I_offer)))
noncomputable def ly(cC bN:List D->R D):Ev->O:=(ao (eU 5 (az 3 bN (ac (az 3 cC (ac (rvz 5) (ac (rvz 1) (ac (rvz 6) nlz)))) (ac (g2 ixD (rvz 2) (rvz 6)) (ac (g2 ixD (rvz 3) (rvz 6)) nlz))))) oNx)
noncomputable def lJ(cC bN:List D->R D):Ev->O:=(ao (eU 5 (rvz 0)) (ao (oN (la 6) (ax jw (ac (rvz 4) (ac (gOf fD (ac (rvz 2) nlz)) nlz))) (ly cC bN)) (ao (cF (rvz 5)) oNx)))
noncomputable def hX(ba:List D->R D):Ev->O:=(ao (cF (uu (cL (ib (ax bI (rvz 1)) [0] (qO false 1 (rvz 0)) (iz 1 (rvz 0)))) ba)) oNx)
noncomputable def bU(eR bS:List D->R D):Ev->O:=(ao (eU 3 (az 5 eR (ac (gD1 (λ_=>R.ok (D.tup [D.bl false,D.bl false])) (λ_=>R.ok (D.tup [D.int 0,D.tup []]))) (ac (rvz 0) (ac (rvz 1) (ac (rvz 2) (ac (ciz 0) nlz))))))) (ao (cF (az 2 bS (ac (rvz 3) (ac (ax mkT (ac (λ_=>R.ok (D.tup [D.bl false,D.bl false])) (ac (λ_=>R.ok (D.tup [D.bl true,D.bl false])) (ac (λ_=>R.ok (D.tup [D.bl false,D.bl true])) (ac (λ_=>R.ok (D.tup [D.bl true,D.bl true])) nlz))))) nlz)))) oNx))
noncomputable def cR(eR bS:List D->R D):Ev->O:=(ao (eU 4 (az 5 eR (ac (gD1 (λ_=>R.ok (D.tup [D.bl true,D.bl false])) (λ_=>R.ok (D.tup [D.int 0,D.tup []]))) (ac (rvz 0) (ac (rvz 1) (ac (rvz 2) (ac (rvz 3) nlz))))))) (ao (eU 5 (az 2 bS (ac (rvz 4) (ac (ax mkT (ac (λ_=>R.ok (D.tup [D.bl false,D.bl false])) (ac (λ_=>R.ok (D.tup [D.bl true,D.bl false])) (ac (λ_=>R.ok (D.tup [D.bl false,D.bl true])) (ac (λ_=>R.ok (D.tup [D.bl true,D.bl true])) nlz))))) nlz)))) (ao (eU 4 (az 5 eR (ac (gD1 (λ_=>R.ok (D.tup [D.bl false,D.bl false])) (λ_=>R.ok (D.tup [D.int 0,D.tup []]))) (ac (rvz 0) (ac (gSl (rvz 1) (λ_=>R.ok none) (fK (rvz 3))) (ac (gSl (rvz 2) (λ_=>R.ok none) (fK (rvz 3))) (ac (ciz 0) nlz))))))) (ao (eU 6 (az 2 bS (ac (rvz 4) (ac (ax mkT (ac (λ_=>R.ok (D.tup [D.bl false,D.bl false])) (ac (λ_=>R.ok (D.tup [D.bl true,D.bl false])) nlz))) nlz)))) (ao (cF (ax mkT (ac (g2 bJ (g2 ixD (rvz 5) (ciz 0)) (g2 ixD (rvz 6) (ciz 0))) (ac (g2 bJ (g2 ixD (rvz 5) (ciz 1)) (g2 ixD (rvz 6) (ciz 1))) nlz)))) oNx)))))
noncomputable def cB(ay bR ba:List D->R D):Ev->O:=(ao (eU 4 (cL (tj (ac (az 4 bR (ac (rvz 0) (ac (rvz 1) (ac (rvz 2) (ac (rvz 3) nlz))))) (ac (az 3 ay (ac (rvz 0) (ac (rvz 1) (ac (rvz 2) nlz)))) nlz))))) (ao (cF (uu (rvz 4) ba)) oNx))
noncomputable def lx(aS aI:List D->R D)(aY ay aL:List D->R D):Ev->O:=(ao (oIf (gB2 neF (rvz 5) (rvz 3)) (ao (Fw 4 (g2 ixD (az 3 ay (ac (rvz 5) (ac (rvz 6) (ac (g2 ixD (rvz 2) (rvz 5)) nlz)))) (ciz 1))) oNx) oNx) oNx)
noncomputable def mM(aS aI:List D->R D)(aY ay aL:List D->R D):Ev->O:=(ao (nh (az 2 aS (ac (rvz 0) (ac (rvz 1) nlz)))) (ao (eU 2 (az 2 aI (ac (rvz 0) (ac (rvz 1) nlz)))) (ao (eU 3 (g2 ixD (g2 ixD (rvz 0) (ciz 2)) (ciz 0))) (ao (zu 4 (Ez (ac (g2 ixD (az 4 aY (ac (rvz 3) (ac (g2 ixD (g2 ixD (rvz 0) (ciz 1)) (rvz 3)) (ac (g2 ixD (rvz 2) (rvz 3)) (ac (g2 ixD (g2 ixD (rvz 0) (ciz 2)) (ciz 1)) nlz))))) (ciz 1)) nlz))) (ao (oN (ur [5,6]) (ax pN (g2 ixD (rvz 0) (ciz 1))) (lx aS aI aY ay aL)) (Bz 4 (ao (cF (az 1 aL (ac (rvz 4) nlz))) oNx)))))))
noncomputable def fC(de fG:List D->R D):Ev->O:=(ao (cF (az 1 fG (ac (az 2 de (ac (rvz 0) (ac (rvz 1) nlz))) nlz))) oNx)
noncomputable def jH(ai:Addr)(aA bG:MF)(eZ aI:List D->R D):Ev->O:=(ao (eU 2 (bX ai 0 aA)) (ao (eU 3 (az 2 eZ (ac (rvz 2) (ac (rvz 1) nlz)))) (ao (mJ ai 0 3 bG (ac (csz [98,114,105,110,103]) (ac (ax mkT (ac (g2 ixD (rvz 2) (ciz 0)) (ac (gOf jR (ac (az 2 aI (ac (rvz 2) (ac (rvz 1) nlz))) nlz)) (ac (g2 ixD (rvz 2) (ciz 2)) nlz)))) (ac (rvz 3) nlz)))) (ao (B6 (rvz 3)) oNx))))
noncomputable abbrev Ky:=Bool×Bool
noncomputable abbrev Pl:=Nat×List Od
noncomputable abbrev Mp:=List (Ky×Pl)
noncomputable def pD(p:Pl):D:=.tup [.int (p.1:Int),.tup (p.2.map oD)]
noncomputable def kD(k:Ky):D:=.tup [.bl k.1,.bl k.2]
noncomputable def kN(k:Ky):Nat:=code k.1 k.2
noncomputable def fsD(m:Mp):List (Nat×Fd):=m.map λz=>(kN z.1,.val (pD z.2))
noncomputable def kvD(m:Mp):List (Nat×D):=m.map λz=>(kN z.1,pD z.2)
noncomputable def dD(m:Mp):D:=.dct (m.map λz=>kN z.1) (m.map λz=>pD z.2)
noncomputable def wV(k:Ky)(p:Pl):Mp->Mp
 | []=>[(k,p)]
 | (j,x)::r=>if j=k then (j,p)::r else (j,x)::wV k p r
noncomputable def bP(m:Mp)(k:Ky)(p:Pl):Mp:=match m.lookup k with
 |none=>wV k p m
 |some q=>if p.1<q.1 then wV k p m else m
noncomputable def kC(p:Pl)(o:Od):Pl:=(p.1+bb o,p.2++[o])
def DT{a b:Ky}(h:kN a=kN b):a=b:=by obtain⟨a1,a2⟩:=a;obtain⟨b1,b2⟩:=b;revert h;cases a1 <;> cases a2 <;> cases b1 <;> cases b2 <;> simp[kN,code]
def mZ(k:Ky):tf (kD k)=some (kN k):=rfl
theorem uo:∀m:Mp,fvs (fsD m)=some (kvD m)
 | []=>rfl
 |z::m=>by show(fvs (fsD m)).map _=_;rw[uo m];rfl
theorem yR:∀m:Mp,(m.map λz=>kN z.1).zip (m.map λz=>pD z.2)=kvD m
 | []=>rfl
 |z::m=>congrArg ((kN z.1,pD z.2)::·) (yR m)
theorem Ec:∀m:Mp,(m.map λz=>kN z.1).zip ((m.map λz=>pD z.2).map Fd.val)=fsD m
 | []=>rfl
 |z::m=>congrArg ((kN z.1,Fd.val (pD z.2))::·) (Ec m)
theorem ni(k:Ky):∀m:Mp,(kvD m).lookup (kN k)=(m.lookup k).map pD
 | []=>rfl
 | (j,x)::m=>by
  show List.lookup (kN k) ((kN j,pD x)::kvD m)=_;rw[List.lookup_cons,List.lookup_cons];by_cases h:k=j;·subst h;rw[beq_self_eq_true,beq_self_eq_true];rfl
  ·rw[beq_eq_false_iff_ne.2 λz=>h (DT z),beq_eq_false_iff_ne.2 h];exact ni k m
theorem En(k:Ky)(p:Pl):∀m:Mp,jG (kN k) (.val (pD p)) (fsD m)=fsD (wV k p m)
 | []=>rfl
 | (j,x)::m=>by
  show(if kN j=kN k then _ else _)=fsD (if j=k then _ else _);by_cases h:j=k;·subst h;rw[if_pos rfl,if_pos rfl];rfl
  ·rw[if_neg λz=>h (DT z),if_neg h];show(_,_)::jG _ _ (fsD m)=(_,_)::fsD _;rw[En k p m]
def Fy(m:Mp):(fsD m).length=m.length:=by unfold fsD;simp
noncomputable def keys(m:Mp):List Ky:=m.map (·.1)
def N0:∀a b c d e:Ky,¬ [a,b,c,d,e].Nodup:=by intro ⟨a1,a2⟩ ⟨b1,b2⟩ ⟨c1,c2⟩ ⟨d1,d2⟩ ⟨e1,e2⟩;revert a1 a2 b1 b2 c1 c2 d1 d2 e1 e2;decide
def few:∀{l:List Ky},l.Nodup->l.length<=4
 | [],_=>by simp
 | [_],_=>by simp
 | [_,_],_=>by simp
 | [_,_,_],_=>by simp
 | [_,_,_,_],_=>by simp
 |a::b::c::d::e::r,h=>by exfalso;have h':(a::b::c::d::e::r).take 5=[a,b,c,d,e]:=rfl;exact N0 a b c d e (h'▸h.sublist (List.take_sublist 5 _))
theorem jT{k:Ky}{p:Pl}:∀{m:Mp},m.lookup k=some p->(k,p)∈m
 | (j,x)::m,e=>by
  rw[List.lookup_cons]at e;by_cases q:k=j;·subst q;rw[beq_self_eq_true]at e;cases e;exact List.mem_cons_self ..
  ·rw[beq_eq_false_iff_ne.2 q]at e;exact List.mem_cons_of_mem _ (jT e)
theorem vP{k:Ky}{p:Pl}:∀{m:Mp},keys (wV k p m)=if k∈keys m then keys m else keys m++[k]
 | []=>rfl
 | (j,x)::m=>by
  show keys (if j=k then (j,p)::m else (j,x)::wV k p m)=_;by_cases q:j=k;·rw[if_pos q,if_pos (by rw[<- q];exact List.mem_cons_self ..)];rfl
  ·rw[if_neg q];show j::keys (wV k p m)=if k∈j::keys m then j::keys m else j::keys m++[k];rw[vP];by_cases h:k∈keys m;·rw[if_pos h,if_pos (List.mem_cons_of_mem _ h)]
   ·rw[if_neg h,if_neg (λz=>by rcases List.mem_cons.1 z with z|z;exact q z.symm;exact h z)];rfl
def sj{k:Ky}{p:Pl}{m:Mp}(h:(keys m).Nodup):(keys (wV k p m)).Nodup:=by
 rw[vP];split;·exact h
 ·rename_i q;rw[List.nodup_append];exact⟨h,by simp,λa ha b hb=>by rw[List.mem_singleton.1 hb];intro z;exact q (z▸ha)⟩
theorem uc{k:Ky}{p:Pl}{z:Ky×Pl}:∀{m:Mp},z∈wV k p m->z∈m\/z=(k,p)
 | [],h=>.inr (List.mem_singleton.1 h)
 | (j,x)::m,h=>by
  replace h:z∈(if j=k then (j,p)::m else (j,x)::wV k p m):=h
  split at h
  ·rename_i q;subst q;rcases List.mem_cons.1 h with h|h;·exact .inr h
   ·exact .inl (List.mem_cons_of_mem _ h)
  ·rcases List.mem_cons.1 h with h|h;·exact .inl (h▸List.mem_cons_self ..)
   ·rcases uc h with h|h;·exact .inl (List.mem_cons_of_mem _ h)
    ·exact .inr h
theorem pR{k j:Ky}{p:Pl}:∀{m:Mp},(wV k p m).lookup j=if j=k then some p else m.lookup j
 | []=>by
  show List.lookup j [(k,p)]=_;rw[List.lookup_cons];by_cases q:j=k;·rw[if_pos q,q,beq_self_eq_true]
  ·rw[if_neg q,beq_eq_false_iff_ne.2 q]
 | (i,x)::m=>by
  show List.lookup j (if i=k then (i,p)::m else (i,x)::wV k p m)=_;by_cases q:i=k
  ·subst q;rw[if_pos rfl,List.lookup_cons,List.lookup_cons];by_cases z:j=i;·rw[if_pos z,z,beq_self_eq_true]
   ·rw[if_neg z,beq_eq_false_iff_ne.2 z]
  ·rw[if_neg q,List.lookup_cons,List.lookup_cons];by_cases z:j=i;·rw[z,beq_self_eq_true];dsimp only;rw[if_neg q]
   ·rw[beq_eq_false_iff_ne.2 z];exact pR
def iM{m:Mp}{k j:Ky}{p:Pl}:(bP m k p).lookup j=if j=k then (match m.lookup k with
  |none=>some p
  |some q=>if p.1<q.1 then some p else some q)else m.lookup j:=by
 unfold bP;cases e:m.lookup k with
 |none=>dsimp only;exact pR
 |some q=>
  dsimp only;by_cases h:p.1<q.1;·rw[if_pos h,if_pos h];exact pR
  ·rw[if_neg h,if_neg h];by_cases z:j=k;·rw[if_pos z,z,e]
   ·rw[if_neg z]
def gL{m:Mp}{k:Ky}{p:Pl}(h:(keys m).Nodup):(keys (bP m k p)).Nodup:=by
 unfold bP;split;·exact sj h
 ·split;·exact sj h
  ·exact h
def yj{m:Mp}{k:Ky}{p:Pl}{z:Ky×Pl}(h:z∈bP m k p):z∈m\/z=(k,p):=by
 unfold bP at h;split at h;·exact uc h
 ·split at h;·exact uc h
  ·exact .inl h
noncomputable def All(P:Ky->Pl->Prop)(m:Mp):Prop:=∀z∈m,P z.1 z.2
def All.offer{P:Ky->Pl->Prop}{m:Mp}{k:Ky}{p:Pl}(h:All P m)(hp:P k p):All P (bP m k p):=λz hz=>by
 rcases yj hz with q|q;·exact h z q
 ·subst q;exact hp
def All.at{P:Ky->Pl->Prop}{m:Mp}{k:Ky}{p:Pl}(h:All P m)(e:m.lookup k=some p):P k p:=h _ (jT e)
noncomputable abbrev dO(q:Addr)(m:Mp):Option Sl:=some (.obj true DC q (fsD m))
def Ef{n:Nat}(h1:ge ρ=.ok d)(h2:tf d=some n)(h3:sH ρ i=.ok kv):qO neg i ge ρ=.ok (if neg then !(kv.lookup n).isSome else (kv.lookup n).isSome):=by unfold qO;rw[h1,R.ok_bind,h2,dL,R.ok_bind,h3,R.ok_bind]
def Af{v:D}{n:Nat}(h3:sH ρ i=.ok kv)(h1:ge ρ=.ok d)(h2:tf d=some n)(h4:kv.lookup n=some v):iz i ge ρ=.ok v:=by unfold iz;rw[h3,R.ok_bind,h1,R.ok_bind,h2];show ofO (kv.lookup n)=_;rw[h4];rfl
def vt{b:Bool}{m:Mp}(h:ρ[i]?=some (some (.obj b DC p (fsD m)))):sH ρ i=.ok (kvD m):=by unfold sH;rw[h];dsimp only;rw[if_pos rfl,uo];rfl
def CI{m:Mp}(h:ρ[i]?=some (vD (dD m))):sH ρ i=.ok (kvD m):=by unfold sH;rw[h];unfold dD;dsimp only;rw[yR]
def FR{gk ga:Ev->R D}{m:Mp}{k:Ky}{p:Pl}(h:ρ[i]?=some (dO q m))(hd:ga ρ=.ok (pD p))(hk:gk ρ=.ok (kD k))(hl:m.length<900):
  Cq i gk ga ρ=.nx (ρ.set i (dO q (wV k p m))):=by
 unfold Cq;rw[kO h,R.ok_out,hd,mB,R.ok_out,hk,mB,R.ok_out,mZ];dsimp only;rw[if_pos (by rw[Fy];exact hl),En]
def yV{b:Bool}{m:Mp}{k:Ky}(h:ρ[i]?=some (some (.obj b DC q (fsD m))))(hk:ge ρ=.ok (kD k)):qO neg i ge ρ=.ok (if neg then !(m.lookup k).isSome else (m.lookup k).isSome):=by rw[Ef hk (mZ k) (vt h),ni,Option.isSome_map]
def wz{b:Bool}{m:Mp}{k:Ky}{p:Pl}(h:ρ[i]?=some (some (.obj b DC q (fsD m))))(hk:ge ρ=.ok (kD k))(e:m.lookup k=some p):iz i ge ρ=.ok (pD p):=
 Af (vt h) hk (mZ k) (by rw[ni,e];rfl)
noncomputable def pcF:List D->R D:=λds=>ak (fZ (aj 1 ds))
def FV(p:Pl):pcF [pD p]=.ok (.int (p.1:Int)):=rfl
def vQ(q:Addr)(m:Mp)(k:Ky)(p:Pl)(hl:m.length<900):
  fR pcF [dO q m,vD (kD k),vD (pD p)]=.nx [dO q (bP m k p),vD (kD k),vD (pD p)]:=by
 unfold fR;have h1:=yV (neg:=true) (i:=0) (ge:=λρ=>rdV ρ 1) (ρ:=[dO q m,vD (kD k),vD (pD p)]) rfl rfl;have h2:=FR (i:=0) (gk:=λρ=>rdV ρ 1) (ga:=λρ=>rdV ρ 2) (ρ:=[dO q m,vD (kD k),vD (pD p)]) rfl rfl rfl hl;have h3:=FV p;unfold bP;cases e:m.lookup k with
 |none=>
  rw[e]at h1;dsimp only[Option.isSome_none]at h1
  walk_at "run"
 |some p0=>
  rw[e]at h1;have h4:=wz (i:=0) (ge:=λρ=>rdV ρ 1) (ρ:=[dO q m,vD (kD k),vD (pD p)]) rfl rfl e;have h5:=FV p0;dsimp only[Option.isSome_some]at h1;have h6:ltD (.int (p.1:Int)) (.int (p0.1:Int))=some (.bl (decide (p.1<p0.1))):=by show some (D.bl (decide ((p.1:Int)<(p0.1:Int))))=_;rw[show decide ((p.1:Int)<(p0.1:Int))=decide (p.1<p0.1) from decide_eq_decide.2 Int.ofNat_lt]
  by_cases h:p.1<p0.1;·walk_at "run"
  ·walk_at "run"
noncomputable def Oy(ρ:Ev):RM:=match (ρ[0]?:Option (Option Sl))with
 |some (some (.obj _ _ _ fs))=>.ok .non fs
 |_=>.no
noncomputable def KK(o:O):RM:=match o with
 |.nx ρ=>Oy ρ
 |_=>.no
open Classical in
noncomputable def cX:MF:=λfs ds=>if ∃m k p,fs=fsD m/\ds=[kD k,pD p]/\m.length<900 then KK (fR pcF (dl true DC 0 fs 3 ds))else .no
def qB{m:Mp}(k:Ky)(p:Pl)(hl:m.length<900):cX (fsD m) [kD k,pD p]=.ok .non (fsD (bP m k p)):=by unfold cX;rw[if_pos ⟨m,k,p,rfl,rfl,hl⟩];show KK (fR pcF [some (.obj true DC 0 (fsD m)),vD (kD k),vD (pD p)])=_;rw[vQ 0 m k p hl];rfl
def Di:dc DC (fR pcF) 3 cX:=by
 intro q fs ds;by_cases h:∃m k p,fs=fsD m/\ds=[kD k,pD p]/\m.length<900;·obtain⟨m,k,p,rfl,rfl,hl⟩:=h;rw[qB k p hl];exact⟨_,rfl,.inr ⟨vQ q m k p hl,rfl⟩⟩
 ·have e:cX fs ds=.no:=by unfold cX;exact if_neg h
  rw[e];trivial
def B5{n:Nat}{fs:List (Nat×Fd)}(ho:ρ[i]?=some (some (.obj true C p fs)))(ha:gl ρ=.ok ds)(hl:ds.length=n)(hF:F fs ds=.ok d fs'):fg (iZ C i n F gl) ρ=.nx (ρ.set i (some (.obj true C p fs'))):=by unfold fg;rw[wn ho ha hl hF];rfl
def MO{p:Pl}{o:Od}(h:p.2.length<900):bJ (.tup (p.2.map oD)) (.tup [oD o])=some (.tup ((p.2++[o]).map oD)):=by
 have h1:1000<=sizeLine:=by decide
 show(if _ then _ else _)=_;rw[if_pos (by simp;omega)];simp
def D4(q:Addr)(m:Mp)(k:Ky)(p:Pl)(o:Od)(hl:m.length<900)(hp:p.2.length<900):
  bq cX ocG [dO q m,vD (kD k),vD (pD p),vD (oD o)]=.nx [dO q (bP m k (kC p o)),vD (kD k),vD (pD p),vD (oD o)]:=by
 show(fg (iZ DC 0 2 cX _) _).seq _=_;rw[B5 (n:=2) rfl ?_ rfl (qB k (kC p o) hl)];·rfl
 ·have h1:=MS o;have h2:=MO (o:=o) hp;have h3:ixD (pD p) (.int 0)=some (.int (p.1:Int)):=rfl;have h4:ixD (pD p) (.int 1)=some (.tup (p.2.map oD)):=rfl;have h5:bJ (.int (p.1:Int)) (.int (bb o:Int))=some (.int ((p.1+bb o:Nat):Int)):=rfl;have h6:mkT [oD o]=.ok (.tup [oD o]):=rfl;have h7:mkT [.int ((p.1+bb o:Nat):Int),.tup ((p.2++[o]).map oD)]=.ok (pD (kC p o)):=rfl
  walk_at "run"
open Classical in
noncomputable def kQ:MF:=λfs ds=>if ∃m k p o,fs=fsD m/\ds=[kD k,pD p,oD o]/\m.length<900/\p.2.length<900 then KK (bq cX ocG (dl true DC 0 fs 4 ds))else .no
def zq{m:Mp}(k:Ky){p:Pl}(o:Od)(hl:m.length<900)(hp:p.2.length<900):kQ (fsD m) [kD k,pD p,oD o]=.ok .non (fsD (bP m k (kC p o))):=by unfold kQ;rw[if_pos ⟨m,k,p,o,rfl,rfl,hl,hp⟩];show KK (bq cX ocG [some (.obj true DC 0 (fsD m)),vD (kD k),vD (pD p),vD (oD o)])=_;rw[D4 0 m k p o hl hp];rfl
def jk:dc DC (bq cX ocG) 4 kQ:=by
 intro q fs ds;by_cases h:∃m k p o,fs=fsD m/\ds=[kD k,pD p,oD o]/\m.length<900/\p.2.length<900;·obtain⟨m,k,p,o,rfl,rfl,hl,hp⟩:=h;rw[zq k o hl hp];exact⟨_,rfl,.inr ⟨D4 q m k p o hl hp,rfl⟩⟩
 ·have e:kQ fs ds=.no:=by unfold kQ;exact if_neg h
  rw[e];trivial
noncomputable def move(m:Mp)(a b:Ky)(o:Od):Mp:=match m.lookup a with
 |some p=>bP m b (kC p o)
 |none=>m
noncomputable def gM(m:Mp)(n c:Nat):Mp:=move (move (move m (false,false) (true,false) (.go n c)) (true,false) (true,true) .wipe) (false,true) (true,true) (.go n c)
noncomputable def Len(J:Nat)(m:Mp):Prop:=All (λ_ p=>p.2.length<=J) m
def Len.mono{K:Nat}{m:Mp}(h:Len J m)(l:J<=K):Len K m:=λz hz=>Nat.le_trans (h z hz) l
def Len.move{J:Nat}{m:Mp}(h:Len J m)(a b:Ky)(o:Od):Len (J+1) (move m a b o):=by
 unfold Q.move;cases e:m.lookup a with
 |none=>exact h.mono (Nat.le_succ _)
 |some p=>exact All.offer (h.mono (Nat.le_succ _)) (by have:=All.at h e;simp only[kC,List.length_append,List.length_singleton];omega)
def oU{m:Mp}(h:(keys m).Nodup)(a b:Ky)(o:Od):(keys (move m a b o)).Nodup:=by
 unfold move;split;·exact gL h
 ·exact h
def GT{m:Mp}(h:(keys m).Nodup):m.length<=4:=by have:=few h;rwa [keys,List.length_map]at this
def tV{x0 x1 x2:Option Sl}{m:Mp}(a b:Ky){o:Od}{go:Ev->R D}(hgo:go [x0,x1,x2,dO q m]=.ok (oD o))(hn:(keys m).Nodup)(hp:Len J m)(hJ:J<900):
  oIf (qO false 3 (λ_=>R.ok (kD a))) (ao (fg (iZ DC 3 3 kQ (ac (λ_=>R.ok (kD b)) (ac (iz 3 (λ_=>R.ok (kD a))) (ac go nlz))))) oNx) oNx [x0,x1,x2,dO q m] =
   .nx [x0,x1,x2,dO q (move m a b o)]:=by
 have h1:=yV (neg:=false) (i:=3) (ge:=λ_=>R.ok (kD a)) (ρ:=[x0,x1,x2,dO q m]) rfl rfl;have hl:=GT hn;unfold move;cases e:m.lookup a with
 |none=>
  rw[e]at h1;dsimp only[Option.isSome_none]at h1⊢
  walk_at "run"
 |some p=>
  rw[e]at h1;dsimp only[Option.isSome_some]at h1⊢;have h2:=wz (i:=3) (ge:=λ_=>R.ok (kD a)) (ρ:=[x0,x1,x2,dO q m]) rfl rfl e;have h4:fg (iZ DC 3 3 kQ (ac (λ_=>R.ok (kD b)) (ac (iz 3 (λ_=>R.ok (kD a))) (ac go nlz)))) [x0,x1,x2,dO q m]=.nx [x0,x1,x2,dO q (bP m b (kC p o))]:=by
   refine B5 rfl ?_ rfl (zq b o (by omega) (by have:=All.at hp e;omega))
   walk_at "run"
  walk_at "run"
def zA{m:Mp}(h:ρ[i]?=some (dO q m)):qZ i ρ=.rt (dD m):=by unfold qZ;rw[h];dsimp only;rw[if_pos rfl,uo];unfold kvD dD;simp only[List.map_map];rfl
def JG(q:Addr×Unit){m:Mp}(n c:Nat)(hm:m≠[])(hn:(keys m).Nodup)(hp:Len J m)(hJ:J<890):cb kQ q (aj 4 [dD m,.int (n:Int),.int (c:Int)])=.rt (dD (gM m n c)):=by
 have h0:cb kQ q (aj 4 [dD m,.int (n:Int),.int (c:Int)])=gw kQ [vD (dD m),vI n,vI c,some (.obj true DC q.1 (fsD m))]:=by
  cases m with
  |nil=>exact absurd rfl hm
  |cons z r=>show gw kQ [_,_,_,some (.obj true DC q.1 ((((z::r:Mp).map λz=>kN z.1)).zip ((((z::r:Mp).map λz=>pD z.2)).map Fd.val)))]=_;rw[Ec]
 rw[h0];have h1:=tV (x0:=vD (dD m)) (x1:=vI n) (x2:=vI c) (q:=q.1) (false,false) (true,false) (o:=.go n c) (go:=ax mkT (ac (csz [103,111]) (ac (rvz 1) (ac (rvz 2) nlz)))) rfl hn hp (by omega);have n1:=oU hn (false,false) (true,false) (.go n c);have l1:=hp.move (false,false) (true,false) (.go n c);have h2:=tV (x0:=vD (dD m)) (x1:=vI n) (x2:=vI c) (q:=q.1) (true,false) (true,true) (o:=.wipe) (go:=ax mkT (ac (csz [119,105,112,101]) nlz)) rfl n1 l1 (by omega);have n2:=oU n1 (true,false) (true,true) .wipe;have l2:=l1.move (true,false) (true,true) .wipe;have h3:=tV (x0:=vD (dD m)) (x1:=vI n) (x2:=vI c) (q:=q.1) (false,true) (true,true) (o:=.go n c) (go:=ax mkT (ac (csz [103,111]) (ac (rvz 1) (ac (rvz 2) nlz)))) rfl n2 l2 (by omega);show(dP kQ _).seq _=_;rw[show dP kQ _=_ from h1];show(dI kQ _).seq _=_;rw[show dI kQ _=_ from h2];show(dJ kQ _).seq _=_;rw[show dJ kQ _=_ from h3];show(qZ 3 _).seq _=_;rw[zA rfl];rfl
open Classical in
noncomputable def wmF:List D->R D:=λds=>if ∃m,∃n c:Nat,ds=[dD m,.int (n:Int),.int (c:Int)]/\m≠[]/\(keys m).Nodup/\Len 880 m then ak (cb kQ (0,()) (aj 4 ds))else .no
def Kl{m:Mp}(n c:Nat)(hm:m≠[])(hn:(keys m).Nodup)(hp:Len J m)(hJ:J<=880):wmF [dD m,.int (n:Int),.int (c:Int)]=.ok (dD (gM m n c)):=by unfold wmF;rw[if_pos ⟨m,n,c,rfl,hm,hn,hp.mono hJ⟩,JG _ n c hm hn hp (by omega)];rfl
def pX:∀ds:List D,ds.length=3->wmF ds=.no\/∀q,ak (cb kQ q (aj 4 ds))=wmF ds:=by
 intro ds _;by_cases h:∃m,∃n c:Nat,ds=[dD m,.int (n:Int),.int (c:Int)]/\m≠[]/\(keys m).Nodup/\Len 880 m;·obtain⟨m,n,c,rfl,hm,hn,hp⟩:=h;refine .inr λq=>?_;rw[Kl n c hm hn hp (Nat.le_refl _),JG q n c hm hn hp (by omega)];rfl
 ·exact .inl (by unfold wmF;exact if_neg h)
noncomputable def und(old:Nat)(b:Bool):Nat:=match b with
 |true=>32
 |false=>old
def gR{h:Ev->O}{ρ1:Ev}(e:g ρ=.nx ρ1):ao g h ρ=h ρ1:=by show(g ρ).seq h=_;rw[e];rfl
noncomputable def sovK(old new:Nat)(acc:Mp)(z:Ky×Pl):Mp:=
 let a1:=if z.1.1=true then bP acc (true,z.1.2) (kC z.2 (.say [new]))else acc
 if und old z.1.2=new then bP a1 (false,z.1.2) z.2 else a1
noncomputable def Bg(old new:Nat)(m:Mp):Mp:=m.foldl (sovK old new) []
def oX{old new:Nat}{acc:Mp}{z:Ky×Pl}(h:(keys acc).Nodup):(keys (sovK old new acc z)).Nodup:=by
 unfold sovK;have h1:(keys (if z.1.1=true then bP acc (true,z.1.2) (kC z.2 (.say [new]))else acc)).Nodup:=by
  split;·exact gL h
  ·exact h
 dsimp only;split;·exact gL h1
 ·exact h1
theorem lD{α:Type}{P:Mp->Prop}{f:Mp->α->Mp}:∀{l:List α}{a:Mp},P a->(∀a x,x∈l->P a->P (f a x))->P (l.foldl f a)
 | [],_,h,_=>h
 |x::l,a,h,H=>lD (l:=l) (H a x (List.mem_cons_self ..) h) λa y hy=>H a y (List.mem_cons_of_mem _ hy)
def xC{old new:Nat}{m:Mp}:(keys (Bg old new m)).Nodup:=lD (P:=λm=>(keys m).Nodup) List.Pairwise.nil λ_ _ _ h=>oX h
def qN{old new:Nat}{m:Mp}{P R:Ky->Pl->Prop}(h:All P m)(h1:∀k p,P k p->k.1=true->R (true,k.2) (kC p (.say [new])))(h2:∀k p,P k p->und old k.2=new->R (false,k.2) p):All R (Bg old new m):=by
 refine lD (λz hz=>nomatch hz) λa x hx ha=>?_;unfold sovK;dsimp only;have g1:All R (if x.1.1=true then bP a (true,x.1.2) (kC x.2 (.say [new]))else a):=by
  split;·rename_i q;exact All.offer ha (h1 _ _ (h x hx) q)
  ·exact ha
 split;·rename_i q;exact All.offer g1 (h2 _ _ (h x hx) q)
 ·exact g1
def yM{x0 x6:Option Sl}{acc:Mp}(old new:Nat)(k:Ky)(p:Pl)(hn:(keys acc).Nodup)(hp:p.2.length<900):
  eI kQ cX [x0,vS [old],vS [new],dO q acc,vD (kD k),vD (pD p),x6] =
   .nx [x0,vS [old],vS [new],dO q (sovK old new acc (k,p)),vD (kD k),vD (pD p),vD (.bl k.2)]:=by
 obtain⟨k1,k2⟩:=k;have i0:ixD (kD (k1,k2)) (.int 0)=some (.bl k1):=rfl;have fin:∀a1:Mp,(keys a1).Nodup->oIf (gB2 eqF (gIf (ax lG (rvz 6)) (csz [32]) (rvz 1)) (rvz 2)) (ao (fg (iZ DC 3 2 cX (ac (ax mkT (ac (λ_=>R.ok (D.bl false)) (ac (rvz 6) nlz))) (ac (rvz 5) nlz)))) oNx) oNx
   [x0,vS [old],vS [new],dO q a1,vD (kD (k1,k2)),vD (pD p),vD (.bl k2)] =
   .nx [x0,vS [old],vS [new],dO q (if und old k2=new then bP a1 (false,k2) p else a1),vD (kD (k1,k2)),vD (pD p),vD (.bl k2)]:=by
  intro a1 n1;have hl:=GT n1;have h4:=B5 (i:=3) (n:=2) (gl:=ac (ax mkT (ac (λ_=>R.ok (D.bl false)) (ac (rvz 6) nlz))) (ac (rvz 5) nlz)) (ρ:=[x0,vS [old],vS [new],dO q a1,vD (kD (k1,k2)),vD (pD p),vD (.bl k2)]) rfl rfl rfl (qB (false,k2) p (by omega));have h6:∀y:Nat,eqF (.str [y]) (.str [new])=some (.bl (decide (y=new))):=λy=>by
   rw[M3];congr 2;by_cases z:y=new;·rw[z,beq_self_eq_true,decide_eq_true rfl]
   ·rw[decide_eq_false z,beq_eq_false_iff_ne];intro y;exact z (by injection y)
  have h7:=h6 (und old k2);clear h6;by_cases z:und old k2=new;·rw[decide_eq_true z]at h7;cases k2 <;> dsimp only[und]at h7 <;> walk_at "run"
  ·rw[decide_eq_false z]at h7;cases k2 <;> dsimp only[und]at h7 <;> walk_at "run"
 have hl:=GT hn;cases k1 with
 |true=>
  have f1:=fin (bP acc (true,k2) (kC p (.say [new]))) (gL hn);have h4:=B5 (i:=3) (n:=3) (gl:=ac (ax mkT (ac (λ_=>R.ok (D.bl true)) (ac (rvz 6) nlz))) (ac (rvz 5) (ac (ax mkT (ac (csz [115,97,121]) (ac (rvz 2) nlz))) nlz))) (ρ:=[x0,vS [old],vS [new],dO q acc,vD (kD (true,k2)),vD (pD p),vD (.bl k2)]) rfl rfl rfl (zq (true,k2) (.say [new]) (by omega) hp);refine(gR (ρ1:=[x0,vS [old],vS [new],dO q acc,vD (kD (true,k2)),vD (pD p),vD (.bl k2)]) ?_).trans ?_;·rfl
  refine(gR (ρ1:=[x0,vS [old],vS [new],dO q (bP acc (true,k2) (kC p (.say [new]))),vD (kD (true,k2)),vD (pD p),vD (.bl k2)]) ?_).trans ?_;·walk_at "run"
  exact gR f1
 |false=>
  have f1:=fin acc hn;refine(gR (ρ1:=[x0,vS [old],vS [new],dO q acc,vD (kD (false,k2)),vD (pD p),vD (.bl k2)]) ?_).trans ?_;·rfl
  refine(gR (ρ1:=[x0,vS [old],vS [new],dO q acc,vD (kD (false,k2)),vD (pD p),vD (.bl k2)]) ?_).trans ?_;·rfl
  exact gR f1
def Hd(k:Ky):Dx (kN k)=kD k:=rF k.1 k.2
def C1(m:Mp):zy (dD m)=.ok (m.map λz=>.tup [kD z.1,pD z.2]):=by
 show R.ok ((((m.map λz=>kN z.1)).zip ((m.map λz=>pD z.2))).map λz=>D.tup [Dx z.1,z.2])=_;rw[yR];unfold kvD;rw[List.map_map]
 congr 1
 refine List.map_congr_left λz _=>?_;show D.tup [Dx (kN z.1),_]=_;rw[Hd]
theorem sM{x0:Option Sl}{q:Addr}(old new:Nat):∀(m acc:Mp)(x4 x5 x6:Option Sl),(keys acc).Nodup->Len 890 m->∃y4 y5 y6,cg (ur [4,5]) (eI kQ cX) (m.map λz=>.tup [kD z.1,pD z.2]) [x0,vS [old],vS [new],dO q acc,x4,x5,x6] =
  .nx [x0,vS [old],vS [new],dO q (m.foldl (sovK old new) acc),y4,y5,y6]
 | [],acc,x4,x5,x6,_,_=>⟨x4,x5,x6,rfl⟩
 | (k,p)::m,acc,x4,x5,x6,hn,hp=>by obtain⟨y4,y5,y6,ih⟩:=sM old new m (sovK old new acc (k,p)) (vD (kD k)) (vD (pD p)) (vD (.bl k.2)) (oX hn) λz hz=>hp z (List.mem_cons_of_mem _ hz);refine⟨y4,y5,y6,?_⟩;rw[List.map_cons,dX rfl (yM old new k p hn (by have:=hp (k,p) (List.mem_cons_self ..);dsimp only at this;omega))];exact ih
def IG(q:Addr×Unit){m:Mp}(old new:Nat)(hp:Len 890 m):ca kQ cX q (aj 7 [dD m,.str [old],.str [new]])=.rt (dD (Bg old new m)):=by
 obtain⟨y4,y5,y6,h⟩:=sM (x0:=vD (dD m)) (q:=q.1) old new m [] none none none List.Pairwise.nil hp;show(cE kQ cX [vD (dD m),vS [old],vS [new],some (.obj true DC q.1 (fsD [])),none,none,none]).seq (ao (eP kQ cX) oNx)=_;have e:cE kQ cX [vD (dD m),vS [old],vS [new],some (.obj true DC q.1 (fsD [])),none,none,none]=.nx [vD (dD m),vS [old],vS [new],some (.obj true DC q.1 (fsD (Bg old new m))),y4,y5,y6]:=by
  have h2:=C1 m;unfold cE
  walk_at "run"
  rfl
 rw[e];show(qZ 3 _).seq _=_;rw[zA rfl];rfl
open Classical in
noncomputable def soF:List D->R D:=λds=>if ∃m,∃old new:Nat,ds=[dD m,.str [old],.str [new]]/\Len 890 m then ak (ca kQ cX (0,()) (aj 7 ds))else .no
def Kr{m:Mp}(old new:Nat)(hp:Len 890 m):soF [dD m,.str [old],.str [new]]=.ok (dD (Bg old new m)):=by unfold soF;rw[if_pos ⟨m,old,new,rfl,hp⟩,IG _ old new hp];rfl
def mY:∀ds:List D,ds.length=3->soF ds=.no\/∀q,ak (ca kQ cX q (aj 7 ds))=soF ds:=by
 intro ds _;by_cases h:∃m,∃old new:Nat,ds=[dD m,.str [old],.str [new]]/\Len 890 m;·obtain⟨m,old,new,rfl,hp⟩:=h;refine .inr λq=>?_;rw[Kr old new hp,IG q old new hp];rfl
 ·exact .inl (by unfold soF;exact if_neg h)
noncomputable def xO(n:Nat)(old new:List Nat)(m:Mp)(c:Nat):Mp:=Bg (old.getD c 0) (new.getD c 0) (gM m n c)
noncomputable def gU(n:Nat)(old new:List Nat)(b:Nat)(m:Mp):Mp:=(List.range' b (old.length - b)).foldl (xO n old new) m
def iP{m:Mp}{k j:Ky}{p:Pl}(h:m.lookup j≠none):(bP m k p).lookup j≠none:=by
 rw[iM];split
 ·split;·exact λz=>nomatch z
  ·split <;> exact λz=>nomatch z
 ·exact h
def nH{m:Mp}{k:Ky}{p:Pl}:(bP m k p).lookup k≠none:=by
 rw[iM,if_pos rfl];split;·exact λz=>nomatch z
 ·split <;> exact λz=>nomatch z
def lP{m:Mp}{a b j:Ky}{o:Od}(h:m.lookup j≠none):(move m a b o).lookup j≠none:=by
 unfold move;split;·exact iP h
 ·exact h
def Dl{m:Mp}{a b:Ky}{o:Od}(h:m.lookup a≠none):(move m a b o).lookup b≠none:=by
 unfold move;split;·exact nH
 ·rename_i e;exact absurd e h
def zR{old new:Nat}{acc:Mp}{z:Ky×Pl}{j:Ky}(h:acc.lookup j≠none):(sovK old new acc z).lookup j≠none:=by
 unfold sovK;have h1:(if z.1.1=true then bP acc (true,z.1.2) (kC z.2 (.say [new]))else acc).lookup j≠none:=by
  split;·exact iP h
  ·exact h
 dsimp only;split;·exact iP h1
 ·exact h1
def CL{old new:Nat}{m:Mp}(h:m.lookup (true,false)≠none):(Bg old new m).lookup (true,false)≠none:=by
 cases e:m.lookup (true,false)with
 |none=>exact absurd e h
 |some p=>
  have hm:=jT e;have go:∀(l:Mp)(acc:Mp),((true,false),p)∈l\/acc.lookup (true,false)≠none->(l.foldl (sovK old new) acc).lookup (true,false)≠none:=by
   intro l;induction l with
   |nil=>intro acc h;rcases h with h|h;exact nomatch h;exact h
   |cons z l ih=>
    intro acc h;refine ih _ ?_;rcases h with h|h
    ·rcases List.mem_cons.1 h with h|h
     ·subst h;refine .inr ?_;unfold sovK;dsimp only;split;·exact iP nH
      ·exact nH
     ·exact .inl h
    ·exact .inr (zR h)
  exact go m [] (.inl hm)
structure Gd(J:Nat)(m:Mp):Prop where
 nd:(keys m).Nodup
 ne:m.lookup (true,false)≠none\/m.lookup (false,false)≠none
 len:Len J m
def Gd.nn{m:Mp}(g:Gd J m):m≠[]:=λe=>by subst e;rcases g.ne with h|h <;> exact h rfl
def xc{m:Mp}(g:Gd J m)(n c:Nat):(gM m n c).lookup (true,false)≠none:=by
 refine lP (lP ?_);rcases g.ne with h|h;·exact lP h
 ·exact Dl h
def Len.moves{m:Mp}(h:Len J m)(n c:Nat):Len (J+3) (gM m n c):=((h.move _ _ _).move _ _ _).move _ _ _
def Len.sov{m:Mp}(h:Len J m)(old new:Nat):Len (J+1) (Bg old new m):=
 qN h (λk p hp _=>by simp only[kC,List.length_append,List.length_singleton];omega) λk p hp _=>Nat.le_succ_of_le hp
def Gd.col{m:Mp}(g:Gd J m)(n c:Nat)(old new:List Nat):Gd (J+4) (xO n old new m c):=
 ⟨xC,.inl (CL (xc g n c)),(g.len.moves n c).sov _ _⟩
def xN{a b:Nat}(h:a+b<=1000):jw [.int (a:Int),.int ((a+b:Nat):Int)]=.ok ((List.range' a b).map λ(i:Nat)=>D.int (i:Int)):=by
 have e:jw [.int (a:Int),.int ((a+b:Nat):Int)]=if -(2 ^ 62)<=(a:Int)/\(a:Int)<2 ^ 62/\-(2 ^ 62)<=((a+b:Nat):Int)/\((a+b:Nat):Int)<2 ^ 62 then .ok ((List.range (((a+b:Nat):Int) - (a:Int)).toNat).map λk=>D.int ((a:Int)+(k:Nat)))else .no:=by simp only[jw]
 rw[e,if_pos (by refine⟨?_,?_,?_,?_⟩ <;> omega),show(((a+b:Nat):Int) - (a:Int)).toNat=b by omega,List.range'_eq_map_range,List.map_map];simp
def gA{x:List Nat}{c:Nat}(h:c<x.length):x[c]?=some (x.getD c 0):=by rw[List.getD_eq_getElem?_getD,List.getElem?_eq_getElem h];rfl
def Gw{x0 x4:Option Sl}{m:Mp}(g:Gd J m)(n c:Nat){new:List Nat}(h1:c<old.length)(h2:c<new.length)(hJ:J<=880):
  ly wmF soF [x0,vI n,vS old,vS new,x4,vD (dD m),vI c]=.nx [x0,vI n,vS old,vS new,x4,vD (dD (xO n old new m c)),vI c]:=by
 have e1:=Kl n c g.nn g.nd g.len hJ;have e2:=Kr (old.getD c 0) (new.getD c 0) ((g.len.moves n c).mono (by omega));have e3:=KM (gA h1);have e4:=KM (gA h2);unfold ly xO
 walk_at "run"
theorem zr{x0 x4:Option Sl}(n:Nat){old new:List Nat}(hl:new.length=old.length):∀(k b J:Nat)(m:Mp)(x6:Option Sl),b+k<=old.length->Gd J m->J+4 * k<=880->∃y6,cg (la 6) (ly wmF soF) ((List.range' b k).map λ(i:Nat)=>D.int (i:Int)) [x0,vI n,vS old,vS new,x4,vD (dD m),x6] =
  .nx [x0,vI n,vS old,vS new,x4,vD (dD ((List.range' b k).foldl (xO n old new) m)),y6]/\Gd (J+4 * k) ((List.range' b k).foldl (xO n old new) m)
 | 0,b,J,m,x6,_,g,_=>⟨x6,rfl,g⟩
 |k+1,b,J,m,x6,hb,g,hJ=>by
  obtain⟨y6,ih,gg⟩:=zr n hl k (b+1) (J+4) (xO n old new m b) (vI b) (by omega) (g.col n b old new) (by omega);refine⟨y6,?_,?_⟩;·rw[List.range'_succ,List.map_cons,dX rfl (Gw g n b (by omega) (by omega) (by omega))];exact ih
  ·rw[List.range'_succ,List.foldl_cons,show J+4 * (k+1)=J+4+4 * k by omega];exact gg
noncomputable def swF:List D->R D:=λds=>ak (lJ wmF soF (aj 7 ds))
def pA{m:Mp}(g:Gd J m)(n:Nat){new:List Nat}{b:Nat}(hl:new.length=old.length)(hb:b<=old.length)(hJ:J+4 * old.length<=880):
  swF [dD m,.int (n:Int),.str old,.str new,.int (b:Int)]=.ok (dD (gU n old new b m))/\Gd (J+4 * (old.length - b)) (gU n old new b m):=by
 obtain⟨y6,h,gg⟩:=zr (x0:=vD (dD m)) (x4:=vI b) n hl (old.length - b) b J m none (by omega) g (by omega);refine⟨?_,gg⟩;have hr:=xN (a:=b) (b:=old.length - b) (by omega);rw[show b+(old.length - b)=old.length by omega]at hr;show ak (ao _ _ [vD (dD m),vI n,vS old,vS new,vI b,none,none])=_
 walk_at "run"
 rfl
noncomputable def xa:Pl->List Pl->Pl
 |b,[]=>b
 |b,x::xs=>if x.1<b.1 then xa x xs else xa b xs
noncomputable def E9:List Pl->Pl
 | []=>(0,[])
 |b::xs=>xa b xs
noncomputable def fH(m:Mp)(ks:List Ky):List Pl:=ks.filterMap λk=>m.lookup k
noncomputable def hV(m:Mp)(ks:List Ky):Pl:=E9 (fH m ks)
theorem uX:∀(xs:List Pl)(b:Pl),uW (λd=>pcF [d]) (pD b) (b.1:Int) (xs.map pD)=.ok (pD (xa b xs))
 | [],b=>rfl
 |x::xs,b=>by
  show(match pcF [pD x]with
   |.ok (.int kx)=>if kx<(b.1:Int)then uW (λd=>pcF [d]) (pD x) kx (xs.map pD)else uW (λd=>pcF [d]) (pD b) (b.1:Int) (xs.map pD)
   |_=>.no)=.ok (pD (if x.1<b.1 then xa x xs else xa b xs));rw[FV];dsimp only;by_cases h:x.1<b.1;·rw[if_pos (by omega),if_pos h];exact uX xs x
  ·rw[if_neg (by omega),if_neg h];exact uX xs b
def wA{xs:List Pl}(h:xs≠[]):pi (λd=>pcF [d]) (xs.map pD)=.ok (pD (E9 xs)):=by
 cases xs with
 |nil=>exact absurd rfl h
 |cons b xs=>exact uX xs b
theorem iT:∀(xs:List Pl)(b:Pl),xa b xs∈b::xs
 | [],b=>List.mem_cons_self ..
 |x::xs,b=>by
  show(if x.1<b.1 then xa x xs else xa b xs)∈_;split;·exact List.mem_cons_of_mem _ (iT xs x)
  ·rcases List.mem_cons.1 (iT xs b)with h|h;·rw[h];exact List.mem_cons_self ..
   ·exact List.mem_cons_of_mem _ (List.mem_cons_of_mem _ h)
def ss{xs:List Pl}(h:xs≠[]):E9 xs∈xs:=by
 cases xs with
 |nil=>exact absurd rfl h
 |cons b xs=>exact iT xs b
def A8{P:Pl->Prop}{m:Mp}{ks:List Ky}(h:All (λ_=>P) m):∀p∈fH m ks,P p:=λp hp=>by obtain⟨k,_,e⟩:=List.mem_filterMap.1 hp;exact All.at h e
def fJ{P:Pl->Prop}{m:Mp}{ks:List Ky}(h:All (λ_=>P) m)(hn:fH m ks≠[]):P (hV m ks):=A8 h _ (ss hn)
def lH{m:Mp}{ks:List Ky}{k:Ky}(hk:k∈ks)(h:m.lookup k≠none):fH m ks≠[]:=by
 cases e:m.lookup k with
 |none=>exact absurd e h
 |some p=>exact List.ne_nil_of_mem (List.mem_filterMap.2 ⟨k,hk,e⟩)
noncomputable def chF:List D->R D:=λds=>ak (hX pcF (aj 2 ds))
theorem AZ{m:Mp}:∀(ks:List Ky)(a:Option Sl),gW (qO false 1 (rvz 0)) (iz 1 (rvz 0)) (ks.map kD) [a,vD (dD m)]=.ok ((fH m ks).map pD)
 | [],a=>rfl
 |k::ks,a=>by
  have ih:=AZ (m:=m) ks (vD (kD k));have h3:sH [vD (kD k),vD (dD m)] 1=.ok (kvD m):=CI rfl;have h1:=Ef (neg:=false) (ge:=λρ=>rdV ρ 0) rfl (mZ k) h3;rw[ni,Option.isSome_map]at h1;show(fw (qO false 1 (rvz 0) [vD (kD k),vD (dD m)])>>=λk'=>if k'=true then fw (iz 1 (rvz 0) [vD (kD k),vD (dD m)])>>=λx=>gW (qO false 1 (rvz 0)) (iz 1 (rvz 0)) (ks.map kD) [vD (kD k),vD (dD m)]>>=λxs=>.ok (x::xs)else gW (qO false 1 (rvz 0)) (iz 1 (rvz 0)) (ks.map kD) [vD (kD k),vD (dD m)])=_;rw[h1,ih];cases e:m.lookup k with
  |none=>
   have:fH m (k::ks)=fH m ks:=by unfold fH;rw[List.filterMap_cons,e]
   rw[this];rfl
  |some p=>
   have h2:=Af (ge:=λρ=>rdV ρ 0) h3 rfl (mZ k) (by rw[ni,e];rfl);have:fH m (k::ks)=p::fH m ks:=by unfold fH;rw[List.filterMap_cons,e]
   rw[this,h2];rfl
def Fr{m:Mp}{ks:List Ky}(hn:fH m ks≠[])(hl:ks.length<=4):chF [dD m,.tup (ks.map kD)]=.ok (pD (hV m ks)):=by
 have h1:=AZ (m:=m) ks none;have h2:((fH m ks).map pD).length<=sizeLine:=by
  have h3:1000<=sizeLine:=by decide
  have h4:=List.length_filterMap_le (λk=>m.lookup k) ks;rw[List.length_map];unfold fH;omega
 have h5:=wA hn;have h6:cL (ib (ax bI (rvz 1)) [0] (qO false 1 (rvz 0)) (iz 1 (rvz 0))) [vD (dD m),vD (.tup (ks.map kD))]=.ok (.lst false ((fH m ks).map pD)):=by
  have h7:bI (.tup (ks.map kD))=.ok (ks.map kD):=rfl;have h8:jm [0] [vD (dD m),vD (.tup (ks.map kD))]=[none,vD (dD m)]:=rfl
  walk_at "run"
 show ak (ao (cF (uu _ pcF)) oNx [vD (dD m),vD (.tup (ks.map kD))])=_;have h9:uu (cL (ib (ax bI (rvz 1)) [0] (qO false 1 (rvz 0)) (iz 1 (rvz 0)))) pcF [vD (dD m),vD (.tup (ks.map kD))]=.ok (pD (hV m ks)):=by unfold uu;rw[h6,R.ok_bind];exact h5
 walk_at "run"
def ii{n:Nat}{h:List D->R D}(e:gl ρ=.ok ds)(l:ds.length=n):az n h gl ρ=h ds:=by unfold az;rw[e,R.ok_bind,if_pos l]
noncomputable def allK:List Ky:=[(false,false),(true,false),(false,true),(true,true)]
noncomputable def twoK:List Ky:=[(false,false),(true,false)]
noncomputable def m0(k:Ky):Mp:=[(k,(0,[]))]
noncomputable def dz(n:Nat)(old new:List Nat):Pl:=hV (gU n old new 0 (m0 (false,false))) allK
noncomputable def gQ(n:Nat)(old new:List Nat)(c:Nat):Pl:=hV (gU n old new c (m0 (true,false))) allK
noncomputable def kR(n:Nat)(old new:List Nat)(c:Nat):Pl:=hV (gU n (old.take c) (new.take c) 0 (m0 (false,false))) twoK
noncomputable def dk(n:Nat)(old new:List Nat)(c:Nat):Pl:=((gQ n old new c).1+(kR n old new c).1,(gQ n old new c).2++(kR n old new c).2)
noncomputable def sB(n:Nat)(old new:List Nat)(c:Nat):Pl:=xa (dk n old new c) [dz n old new]
def gd0:Gd 0 (m0 (false,false)):=⟨by decide,.inr (λz=>nomatch z),λz hz=>by rw[List.mem_singleton.1 hz];exact Nat.le_refl _⟩
def gd1:Gd 0 (m0 (true,false)):=⟨by decide,.inl (λz=>nomatch z),λz hz=>by rw[List.mem_singleton.1 hz];exact Nat.le_refl _⟩
def Gd.two{m:Mp}(g:Gd J m):fH m twoK≠[]:=by
 rcases g.ne with h|h;·exact lH (by decide) h
 ·exact lH (by decide) h
def Gd.all{m:Mp}(g:Gd J m):fH m allK≠[]:=by
 rcases g.ne with h|h;·exact lH (by decide) h
 ·exact lH (by decide) h
noncomputable def peF:List D->R D:=λds=>ak (bU swF chF (aj 4 ds))
def J5{h:List D->R D}{ga gc gd:Ev->R D}:az 5 h (ac ga (ac gb (ac gc (ac gd (ac ge λ_=>.ok []))))) ρ=ga ρ>>=λx=>gb ρ>>=λy=>gc ρ>>=λz=>gd ρ>>=λw=>ge ρ>>=λv=>h [x,y,z,w,v]:=by
 unfold az ac;cases ga ρ <;> try rfl
 cases gb ρ <;> try rfl
 cases gc ρ <;> try rfl
 cases gd ρ <;> try rfl
 cases ge ρ <;> rfl
def Hy(b:Bool)(ρ:Ev):gD1 (λ_=>R.ok (D.tup [D.bl b,D.bl false])) (λ_=>R.ok (D.tup [D.int 0,D.tup []])) ρ=.ok (dD (m0 (b,false))):=rfl
def HV:mkT [D.tup [D.bl false,D.bl false],D.tup [D.bl true,D.bl false],D.tup [D.bl false,D.bl true],D.tup [D.bl true,D.bl true]]=.ok (.tup (allK.map kD)):=rfl
def Lp:mkT [D.tup [D.bl false,D.bl false],D.tup [D.bl true,D.bl false]]=.ok (.tup (twoK.map kD)):=rfl
def EU(n:Nat){new:List Nat}(hl:new.length=old.length)(hw:old.length<=40):peF [.int (n:Int),.str old,.str new]=.ok (pD (dz n old new))/\(dz n old new).2.length<=4 * old.length:=by
 obtain⟨h1,g⟩:=pA gd0 n hl (Nat.zero_le _) (by omega);have b:=fJ g.len g.all;refine⟨?_,by unfold dz;omega⟩;have h1:swF [_,_,_,_,.int 0]=_:=h1;have h2:=Fr g.all (by decide);have k5:=@J5;have d1:=Hy;have k4:=HV;show ak (ao _ _ [vI n,vS old,vS new,none])=_;unfold dz
 walk_at "run"
noncomputable def ppF:List D->R D:=λds=>ak (cR swF chF (aj 7 ds))
def DA{x:List Nat}{c:Nat}(h:c<=x.length):CJ none (some (c:Int)) (.str x)=some (.str (x.take c)):=by show some (D.str (km x none (some (c:Int))))=_;rw[Ce x c h]
def B2{a b:List Od}(h:a.length+b.length<=900):bJ (.tup (a.map oD)) (.tup (b.map oD))=some (.tup ((a++b).map oD)):=by
 have h1:1000<=sizeLine:=by decide
 show(if _ then _ else _)=_;rw[if_pos (by simp only[List.length_map];omega),List.map_append]
def Mt(n:Nat){new:List Nat}{c:Nat}(hl:new.length=old.length)(hw:old.length<=40)(hc:c<=old.length):ppF [.int (n:Int),.str old,.str new,.int (c:Int)]=.ok (pD (dk n old new c))/\(dk n old new c).2.length<=4 * old.length:=by
 obtain⟨h1,g1⟩:=pA gd1 n hl hc (by omega);have l1:(old.take c).length=c:=by rw[List.length_take];omega
 have l2:(new.take c).length=c:=by rw[List.length_take];omega
 obtain⟨h2,g2⟩:=pA gd0 n (old:=old.take c) (new:=new.take c) (by omega) (Nat.zero_le _) (by omega);have b1:=fJ g1.len g1.all;have b2:=fJ g2.len g2.two;have b3:(dk n old new c).2.length<=4 * old.length:=by unfold dk gQ kR;rw[List.length_append];rw[l1]at b2;omega
 refine⟨?_,b3⟩;have h3:_=R.ok (pD (gQ n old new c)):=Fr g1.all (by decide);have h4:_=R.ok (pD (kR n old new c)):=Fr g2.two (by decide);have h2:swF [_,_,_,_,.int 0]=_:=h2;have h5:=DA hc;have h6:=DA (by omega:c<=new.length);have h7:=B2 (a:=(gQ n old new c).2) (b:=(kR n old new c).2) (by unfold dk at b3;rw[List.length_append]at b3;omega);have k5:=@J5;have d1:=Hy;have k4:=HV;have k2:=Lp;have i0:∀p:Pl,ixD (pD p) (.int 0)=some (.int (p.1:Int)):=λ_=>rfl;have i1:∀p:Pl,ixD (pD p) (.int 1)=some (.tup (p.2.map oD)):=λ_=>rfl;have i5:mkT [.int (((gQ n old new c).1:Int)+((kR n old new c).1:Int)),.tup (((gQ n old new c).2++(kR n old new c).2).map oD)]=.ok (pD (dk n old new c)):=rfl;show ak (ao _ _ [vI n,vS old,vS new,vI c,none,none,none])=_
 walk_at "run"
noncomputable def rpF:List D->R D:=λds=>ak (cB peF ppF pcF (aj 5 ds))
def HG(n:Nat){new:List Nat}{c:Nat}(hl:new.length=old.length)(hw:old.length<=40)(hc:c<=old.length):rpF [.int (n:Int),.str old,.str new,.int (c:Int)]=.ok (pD (sB n old new c))/\(sB n old new c).2.length<=4 * old.length:=by
 obtain⟨h1,b1⟩:=EU n hl hw;obtain⟨h2,b2⟩:=Mt n hl hw hc;refine⟨?_,?_⟩
 ·have h3:_=R.ok (pD (sB n old new c)):=wA (xs:=[dk n old new c,dz n old new]) (λz=>nomatch z);have hz:2<=sizeLine:=by decide
  have mn:∀(ga:Ev->R D)(ρ:Ev),uu ga pcF ρ=ga ρ>>=λd=>match d with|.lst _ xs=>pi (λd=>pcF [d]) xs|_=>.no:=λ_ _=>rfl
  show ak (ao _ _ [vI n,vS old,vS new,vI c,none])=_;rw[List.map_cons,List.map_cons,List.map_nil]at h3
  walk_at "run"
 ·rcases List.mem_cons.1 (iT [dz n old new] (dk n old new c))with h|h;·unfold sB;rw[h];exact b2
  ·unfold sB;rw[List.mem_singleton.1 h];exact b1
def oZ{P:Pl->Prop}{m:Mp}{a b:Ky}{o:Od}(h:All (λ_=>P) m)(ho:∀p,P p->P (kC p o)):All (λ_=>P) (move m a b o):=by
 unfold move;split;·rename_i p e;exact All.offer h (ho p (All.at h e))
 ·exact h
def xf{P:Pl->Prop}{n b:Nat}{new:List Nat}{m:Mp}(h:All (λ_=>P) m)(hg:∀c,c<old.length->∀p,P p->P (kC p (.go n c)))(hw:∀p,P p->P (kC p .wipe))(hs:∀c,c<old.length->∀p,P p->P (kC p (.say [new.getD c 0]))):All (λ_=>P) (gU n old new b m):=by
 refine lD h λa c hc ha=>?_;have hc':c<old.length:=by rw[List.mem_range'_1]at hc;omega
 exact qN (oZ (oZ (oZ ha (hg c hc')) hw) (hg c hc')) (λk p hp _=>hs c hc' p hp) λk p hp _=>hp
noncomputable def POk(p:Pl):Prop:=(∀o∈p.2,okO o=true/\qQ o<=1)/\p.1=(p.2.map bb).sum
def POk.add{p:Pl}{o:Od}(h:POk p)(ho:okO o=true)(hs:qQ o<=1):POk (kC p o):=by
 refine⟨λx hx=>?_,?_⟩
 ·rcases List.mem_append.1 hx with hx|hx;·exact h.1 x hx
  ·rw[List.mem_singleton.1 hx];exact⟨ho,hs⟩
 ·simp only[kC,h.2];simp
def POk.zero:POk (0,[]):=⟨λ_ h=>(by cases h),rfl⟩
def yC{x:List Nat}{c:Nat}(h:aX x=true)(hc:c<x.length):aX [x.getD c 0]=true:=by
 have:x.getD c 0∈x:=by rw[List.getD_eq_getElem?_getD,List.getElem?_eq_getElem hc];exact List.getElem_mem hc
 unfold aX at h⊢;simp only[List.all_cons,List.all_nil,Bool.and_true];exact List.all_eq_true.1 h _ this
def lN{n b:Nat}{new:List Nat}{m:Mp}(h:All (λ_=>POk) m)(hn:n<=11)(hw:old.length<=40)(hl:new.length=old.length)(hp:aX new=true):All (λ_=>POk) (gU n old new b m):=
 xf h (λc hc p q=>q.add (by simp only[okO,Bool.and_eq_true,decide_eq_true_eq];omega) (Nat.zero_le _)) (λp q=>q.add rfl (Nat.zero_le _))
  λc hc p q=>q.add (by have:=yC hp (by omega:c<new.length);simp only[okO,this];rfl) (Nat.le_refl _)
def yB(k:Ky):All (λ_=>POk) (m0 k):=λz hz=>by rw[List.mem_singleton.1 hz];exact POk.zero
def pM{n:Nat}{new:List Nat}(hn:n<=11)(hw:old.length<=40)(hl:new.length=old.length)(hp:aX new=true):POk (dz n old new):=
 fJ (lN (yB _) hn hw hl hp) (pA gd0 n hl (Nat.zero_le _) (by omega)).2.all
def Ca{x:List Nat}(n:Nat)(h:aX x=true):aX (x.take n)=true:=by simp only[aX,List.all_eq_true]at *;exact λc hc=>h c (List.mem_of_mem_take hc)
def yu{n c:Nat}{new:List Nat}(hn:n<=11)(hw:old.length<=40)(hl:new.length=old.length)(hp:aX new=true)(hc:c<=old.length):POk (gQ n old new c):=
 fJ (lN (yB _) hn hw hl hp) (pA gd1 n hl hc (by omega)).2.all
def CB{n c:Nat}{new:List Nat}(hn:n<=11)(hw:old.length<=40)(hl:new.length=old.length)(hp:aX new=true)(hc:c<=old.length):POk (kR n old new c):=by
 have l1:(old.take c).length=c:=by rw[List.length_take];omega
 have l2:(new.take c).length=c:=by rw[List.length_take];omega
 exact fJ (lN (yB _) hn (by omega) (by omega) (Ca c hp)) (pA gd0 n (by omega) (Nat.zero_le _) (by omega)).2.two
def zn{n c:Nat}{new:List Nat}(hn:n<=11)(hw:old.length<=40)(hl:new.length=old.length)(hp:aX new=true)(hc:c<=old.length):POk (dk n old new c):=by
 have h1:=yu hn hw hl hp hc;have h2:=CB hn hw hl hp hc;refine⟨λo ho=>?_,?_⟩
 ·rcases List.mem_append.1 ho with ho|ho;·exact h1.1 o ho
  ·exact h2.1 o ho
 ·show _+_=_;rw[h1.2,h2.2];simp[dk]
def yv{n c:Nat}{new:List Nat}(hn:n<=11)(hw:old.length<=40)(hl:new.length=old.length)(hp:aX new=true)(hc:c<=old.length):POk (sB n old new c):=by
 rcases List.mem_cons.1 (iT [dz n old new] (dk n old new c))with h|h;·unfold sB;rw[h];exact zn hn hw hl hp hc
 ·unfold sB;rw[List.mem_singleton.1 h];exact pM hn hw hl hp
noncomputable def Has(m:Mp)(k:Ky)(v:Nat):Prop:=∃q,m.lookup k=some q/\q.1<=v
def Has.offer{m:Mp}{j k:Ky}{v:Nat}{p:Pl}(h:Has m j v):Has (bP m k p) j v:=by
 obtain⟨q,e,hq⟩:=h;unfold Has;rw[iM];by_cases z:j=k
 ·subst z;rw[if_pos rfl,e];dsimp only;by_cases y:p.1<q.1;·rw[if_pos y];exact⟨p,rfl,by omega⟩
  ·rw[if_neg y];exact⟨q,rfl,hq⟩
 ·rw[if_neg z];exact⟨q,e,hq⟩
def Has.new{m:Mp}{k:Ky}{p:Pl}:Has (bP m k p) k p.1:=by
 unfold Has;rw[iM,if_pos rfl];cases m.lookup k with
 |none=>exact⟨p,rfl,Nat.le_refl _⟩
 |some q=>
  dsimp only;by_cases y:p.1<q.1;·rw[if_pos y];exact⟨p,rfl,Nat.le_refl _⟩
  ·rw[if_neg y];exact⟨q,rfl,by omega⟩
def Has.mono{m:Mp}{k:Ky}{v w:Nat}(h:Has m k v)(l:v<=w):Has m k w:=by obtain⟨q,e,hq⟩:=h;exact⟨q,e,Nat.le_trans hq l⟩
def Has.keep{m:Mp}{a b j:Ky}{o:Od}{v:Nat}(h:Has m j v):Has (move m a b o) j v:=by
 unfold move;split;·exact h.offer
 ·exact h
def Has.move{m:Mp}{a b:Ky}{o:Od}{v:Nat}(h:Has m a v):Has (move m a b o) b (v+bb o):=by obtain⟨q,e,hq⟩:=h;unfold Q.move;rw[e];exact Has.new.mono (by show q.1+bb o<=_;omega)
def Has.sovK{old new:Nat}{acc:Mp}{z:Ky×Pl}{j:Ky}{v:Nat}(h:Has acc j v):Has (sovK old new acc z) j v:=by
 unfold Q.sovK;have h1:Has (if z.1.1=true then bP acc (true,z.1.2) (kC z.2 (.say [new]))else acc) j v:=by
  split;·exact h.offer
  ·exact h
 dsimp only;split;·exact h1.offer
 ·exact h1
theorem pj{old new:Nat}{j:Ky}{v:Nat}:∀{l acc:Mp},(Has acc j v\/∃z∈l,∀acc,Has (sovK old new acc z) j v)->Has (l.foldl (sovK old new) acc) j v
 | [],acc,h=>by
  rcases h with h|⟨z,hz,_⟩;·exact h
  ·cases hz
 |x::l,acc,h=>by
  refine pj (l:=l) ?_;rcases h with h|⟨z,hz,H⟩;·exact .inl h.sovK
  ·rcases List.mem_cons.1 hz with hz|hz;·subst hz;exact .inl (H acc)
   ·exact .inr ⟨z,hz,H⟩
def Has.say{old new:Nat}{m:Mp}{w:Bool}{v:Nat}(h:Has m (true,w) v):Has (Bg old new m) (true,w) (v+1):=by
 obtain⟨q,e,hq⟩:=h;refine pj (.inr ⟨_,jT e,λacc=>?_⟩);unfold Q.sovK;dsimp only;have h1:Has (bP acc (true,w) (kC q (.say [new]))) (true,w) (v+1):=Has.new.mono (by show q.1+1<=_;omega);split;·exact h1.offer
 ·exact h1
def Has.leave{old new:Nat}{m:Mp}{a w:Bool}{v:Nat}(h:Has m (a,w) v)(e:und old w=new):Has (Bg old new m) (false,w) v:=by obtain⟨q,e',hq⟩:=h;refine pj (.inr ⟨_,jT e',λacc=>?_⟩);unfold Q.sovK;rw[if_pos e];exact Has.new.mono hq
theorem iH:∀(xs:List Pl)(b:Pl)(p:Pl),p∈b::xs->(xa b xs).1<=p.1
 | [],b,p,h=>by rw[List.mem_singleton.1 h];exact Nat.le_refl _
 |x::xs,b,p,h=>by
  show(if x.1<b.1 then xa x xs else xa b xs).1<=_;by_cases y:x.1<b.1
  ·rw[if_pos y];rcases List.mem_cons.1 h with h|h;·rw[h];exact Nat.le_trans (iH xs x x (List.mem_cons_self ..)) (Nat.le_of_lt y)
   ·exact iH xs x p h
  ·rw[if_neg y];rcases List.mem_cons.1 h with h|h;·rw[h];exact iH xs b b (List.mem_cons_self ..)
   ·rcases List.mem_cons.1 h with h|h;·rw[h];exact Nat.le_trans (iH xs b b (List.mem_cons_self ..)) (by omega)
    ·exact iH xs b p (List.mem_cons_of_mem _ h)
def qp{m:Mp}{ks:List Ky}{k:Ky}{v:Nat}(hk:k∈ks)(h:Has m k v):(hV m ks).1<=v:=by
 obtain⟨q,e,hq⟩:=h;have hm:q∈fH m ks:=List.mem_filterMap.2 ⟨k,hk,e⟩;unfold hV;cases c:fH m ks with
 |nil=>rw[c]at hm;cases hm
 |cons b xs=>rw[c]at hm;exact Nat.le_trans (iH xs b q hm) hq
def Nv(k:Ky):Has (m0 k) k 0:=⟨(0,[]),by unfold m0;rw[List.lookup_cons,beq_self_eq_true],Nat.le_refl _⟩
structure GL(s:St)(g:List (List Nat)):Prop where
 n:g.length=s.2.1.length
 l:∀x∈g,x.length=s.1/\aX x=true
def nv{s:St}{xs:List (List Nat)}(h:cw s.2.1.length s.1 xs=true):GL s (eJ s.2.1.length s.1 xs):=by
 obtain⟨h1,h2⟩:=qu h;have hp:∀n,aX (List.replicate n 32)=true:=λn=>xV n 32 (by decide);unfold eJ;refine⟨by rw[List.length_append,List.length_map,List.length_replicate];omega,λx hx=>?_⟩;rcases List.mem_append.1 hx with hx|hx;·obtain⟨y,hy,rfl⟩:=List.mem_map.1 hx;have:=h2 y hy;unfold Ck;exact⟨by rw[List.length_append,List.length_replicate];omega,fS this.1 (hp _)⟩
 ·rw[(List.mem_replicate.1 hx).2];exact⟨List.length_replicate ..,hp _⟩
def dH{s:St}{g:List (List Nat)}(h:GL s g)(hi:i<s.2.1.length):(g.getD i []).length=s.1/\aX (g.getD i [])=true:=by have:g.getD i []∈g:=gG (by rw[h.n];exact hi);exact h.l _ this
def bT{s:St}(h:GS s)(hi:i<s.2.1.length):(s.2.1.getD i []).length=s.1/\aX (s.2.1.getD i [])=true:=h.l _ (gG hi)
noncomputable def vN(s:St)(g:List (List Nat))(i:Nat):List Od:=if i=s.2.2.1 then []else (dz i (s.2.1.getD i []) (g.getD i [])).2
noncomputable def li(s:St)(g:List (List Nat)):List Od:=(sB s.2.2.1 (s.2.1.getD s.2.2.1 []) (g.getD s.2.2.1 []) s.2.2.2).2
noncomputable def cK(s:St)(g:List (List Nat)):List Od:=li s g++(List.range' 0 s.2.1.length).flatMap (vN s g)
def zI{s:St}{g:List (List Nat)}(h:GS s)(hg:GL s g)(hi:i<s.2.1.length):(vN s g i).length<=4 * s.1:=by
 unfold vN;split;·exact Nat.zero_le _
 ·have:=(EU i (new:=g.getD i []) (by rw[(bT h hi).1,(dH hg hi).1]) (by rw[(bT h hi).1];exact h.w2)).2
  rwa [(bT h hi).1]at this
def JA{s:St}{g:List (List Nat)}(h:GS s)(hg:GL s g)(hi:i<s.2.1.length):∀o∈vN s g i,okO o=true/\qQ o<=1:=by
 unfold vN;split;·exact λo ho=>by cases ho
 ·have hm:=h.m;exact(pM (by omega) (by rw[(bT h hi).1];exact h.w2) (by rw[(bT h hi).1,(dH hg hi).1]) (dH hg hi).2).1
def sP{s:St}{g:List (List Nat)}(h:GS s)(hg:GL s g):(li s g).length<=4 * s.1:=by
 have:=(HG s.2.2.1 (new:=g.getD s.2.2.1 []) (by rw[(bT h h.r).1,(dH hg h.r).1]) (by rw[(bT h h.r).1];exact h.w2) (by rw[(bT h h.r).1];exact h.c)).2
 rwa [(bT h h.r).1]at this
def Bq{s:St}{g:List (List Nat)}(h:GS s)(hg:GL s g):∀o∈li s g,okO o=true/\qQ o<=1:=by have hm:=h.m;have hr:=h.r;exact(yv (by omega) (by rw[(bT h h.r).1];exact h.w2) (by rw[(bT h h.r).1,(dH hg h.r).1]) (dH hg h.r).2 (by rw[(bT h h.r).1];exact h.c)).1
def A9(rows:List (List Nat)):br 0 (rows.map .str)=(List.range' 0 rows.length).map λ(i:Nat)=>.tup [.int (i:Int),.str (rows.getD i [])]:=by
 unfold br;rw[List.length_map,List.range_eq_range'];refine List.map_congr_left λi hi=>?_;have hi':i<rows.length:=by rw[List.mem_range'_1]at hi;omega
 rw[List.getD_eq_getElem?_getD,List.getD_eq_getElem?_getD,List.getElem?_map,List.getElem?_eq_getElem hi',Nat.zero_add];rfl
theorem ze{F1 F2 F3 F4:List D->R D}{x0 x1:Option Sl}{s:St}{g:List (List Nat)}(h:GS s)(hg:GL s g):∀(k j:Nat)(acc:List Od)(x5 x6:Option Sl),j+k<=s.2.1.length->acc.length+4 * s.1 * k<=900->∃y5 y6,cg (ur [5,6]) (lx F1 F2 F3 peF F4) ((List.range' j k).map λ(i:Nat)=>.tup [.int (i:Int),.str (s.2.1.getD i [])])
  [x0,x1,vD (.lst false (g.map .str)),vD (.int (s.2.2.1:Int)),some (.own (acc.map oD)),x5,x6] =
  .nx [x0,x1,vD (.lst false (g.map .str)),vD (.int (s.2.2.1:Int)),some (.own ((acc++(List.range' j k).flatMap (vN s g)).map oD)),y5,y6]
 | 0,j,acc,x5,x6,_,_=>⟨x5,x6,by simp[qm]⟩
 |k+1,j,acc,x5,x6,hj,hl=>by
  have hi:j<s.2.1.length:=by omega
  have b1:=zI h hg hi;rw[Nat.mul_succ]at hl;obtain⟨y5,y6,ih⟩:=ze h hg k (j+1) (acc++vN s g j) (vI j) (vS (s.2.1.getD j [])) (by omega) (by rw[List.length_append];omega);refine⟨y5,y6,?_⟩;rw[List.range'_succ,List.map_cons,dX rfl ?_,ih,List.flatMap_cons,List.append_assoc];have e1:neF (.int (j:Int)) (.int (s.2.2.1:Int))=some (.bl (!decide (j=s.2.2.1))):=by
   rw[M6];by_cases z:j=s.2.2.1;·rw[z,beq_self_eq_true,decide_eq_true rfl]
   ·rw[decide_eq_false z,beq_eq_false_iff_ne.2 (by omega)]
  unfold lx vN;by_cases z:j=s.2.2.1
  ·rw[if_pos z,List.append_nil];rw[decide_eq_true z]at e1;clear z b1 hl hj hi
   walk_at "run"
  ·have e2:=(EU j (new:=g.getD j []) (by rw[(bT h hi).1,(dH hg hi).1]) (by rw[(bT h hi).1];exact h.w2)).1;have e3:ixD (.lst false (g.map .str)) (.int (j:Int))=some (.str (g.getD j [])):=M1 (by rw[List.getElem?_map,List.getElem?_eq_getElem (by rw[hg.n];exact hi),List.getD_eq_getElem?_getD,List.getElem?_eq_getElem (by rw[hg.n];exact hi)];rfl);have e4:ixD (pD (dz j (s.2.1.getD j []) (g.getD j []))) (.int 1)=some (.tup ((dz j (s.2.1.getD j []) (g.getD j [])).2.map oD)):=rfl;have e5:∀(ga:Ev->R D)(ρ:Ev),Fw 4 ga ρ=(ownAt ρ 4).out ρ λds=>(ga ρ).out ρ λd=>(asT d).out ρ λes=>if ds.length+es.length<=sizeLine then .nx (ρ.set 4 (some (.own (ds++es))))else .no:=λ_ _=>rfl;have e6:asT (.tup ((dz j (s.2.1.getD j []) (g.getD j [])).2.map oD))=.ok ((dz j (s.2.1.getD j []) (g.getD j [])).2.map oD):=rfl;have e7:(acc.map oD).length+((dz j (s.2.1.getD j []) (g.getD j [])).2.map oD).length<=sizeLine:=by
    have h1:1000<=sizeLine:=by decide
    unfold vN at b1;rw[if_neg z]at b1;rw[List.length_map,List.length_map];omega
   have e8:∀(a0 a1 a2 a3:Option Sl)(ds:List D)(ρ:Ev),ownAt (a0::a1::a2::a3::some (.own ds)::ρ) 4=.ok ds:=λ_ _ _ _ _ _=>rfl;rw[List.map_append]
   walk_at "run"
theorem vV{s:St}{g:List (List Nat)}(h:GS s)(hg:GL s g):∀(k j:Nat),j+k<=s.2.1.length->((List.range' j k).flatMap (vN s g)).length<=4 * s.1 * k
 | 0,_,_=>Nat.zero_le _
 |k+1,j,hj=>by have:=vV h hg k (j+1) (by omega);have b1:=zI h hg (i:=j) (by omega);rw[List.range'_succ,List.flatMap_cons,List.length_append,Nat.mul_succ];omega
def nO{s:St}{g:List (List Nat)}(h:GS s)(hg:GL s g):(cK s g).length<=4 * s.1 * (s.2.1.length+1):=by have:=vV h hg s.2.1.length 0 (by omega);have b1:=sP h hg;unfold cK;rw[List.length_append,Nat.mul_succ];omega
def jK{s:St}{g:List (List Nat)}(h:GS s)(hg:GL s g):∀o∈cK s g,okO o=true/\qQ o<=1:=λo ho=>by
 rcases List.mem_append.1 ho with ho|ho;·exact Bq h hg o ho
 ·obtain⟨i,hi,ho⟩:=List.mem_flatMap.1 ho;exact JA h hg (by rw[List.mem_range'_1]at hi;omega) o ho
noncomputable def leF(Co:Addr):List D->R D:=λds=>ak (mM crN frG rpF peF (shG Co) (aj 7 ds))
def Mw{os:List Od}(h:∀o∈os,okO o=true/\qQ o<=1)(hl:os.length<=900):shG C [.lst false (os.map oD)]=.ok (.lst false ((shO os).map oD)):=M9 (λo ho=>(h o ho).1) (by omega)
def Jw{s:St}(h:GS s){xs:List (List Nat)}(hx:cw s.2.1.length s.1 xs=true)(hb:4 * s.1 * (s.2.1.length+1)<=900)(f:Bool):leF C [sD s,.lst f (xs.map .str)]=.ok (.lst false ((shO (cK s (eJ s.2.1.length s.1 xs))).map oD)):=by
 have c1:=IB h hx f;have c2:=GB h hx f;have hg:=nv hx;generalize eJ s.2.1.length s.1 xs=g at c2 hg⊢;have c3:=(HG s.2.2.1 (new:=g.getD s.2.2.1 []) (by rw[(bT h h.r).1,(dH hg h.r).1]) (by rw[(bT h h.r).1];exact h.w2) (by rw[(bT h h.r).1];exact h.c)).1;have c4:=Mw (C:=C) (jK h hg) (Nat.le_trans (nO h hg) hb);have i1:ixD (sD s) (.int 2)=some (.tup [.int (s.2.2.1:Int),.int (s.2.2.2:Int)]):=rfl;have i2:ixD (.tup [.int (s.2.2.1:Int),.int (s.2.2.2:Int)]) (.int 0)=some (.int (s.2.2.1:Int)):=rfl;have i3:ixD (.tup [.int (s.2.2.1:Int),.int (s.2.2.2:Int)]) (.int 1)=some (.int (s.2.2.2:Int)):=rfl;have i4:ixD (sD s) (.int 1)=some (.tup (s.2.1.map .str)):=rfl;have i5:ixD (.tup (s.2.1.map D.str)) (.int (s.2.2.1:Int))=some (.str (s.2.1.getD s.2.2.1 [])):=HC (by rw[List.getElem?_map,List.getElem?_eq_getElem h.r,List.getD_eq_getElem?_getD,List.getElem?_eq_getElem h.r];rfl);have hr:=h.r;have i6:ixD (.lst false (g.map D.str)) (.int (s.2.2.1:Int))=some (.str (g.getD s.2.2.1 [])):=M1 (by rw[List.getElem?_map,List.getElem?_eq_getElem (by rw[hg.n];exact hr),List.getD_eq_getElem?_getD,List.getElem?_eq_getElem (by rw[hg.n];exact hr)];rfl);have i7:ixD (pD (sB s.2.2.1 (s.2.1.getD s.2.2.1 []) (g.getD s.2.2.1 []) s.2.2.2)) (.int 1)=some (.tup ((li s g).map oD)):=rfl;have i8:pN (.tup (s.2.1.map .str))=.ok ((List.range' 0 s.2.1.length).map λ(i:Nat)=>.tup [.int (i:Int),.str (s.2.1.getD i [])]):=by show R.ok (br 0 (s.2.1.map .str))=_;rw[A9]
 obtain⟨y5,y6,lp0⟩:=ze h hg s.2.1.length 0 (li s g) none none (by omega) (by have:=sP h hg;rw[Nat.mul_succ]at hb;omega);have lp:cg (ur [5,6]) (lx crN frG rpF peF (shG C)) ((List.range' 0 s.2.1.length).map λ(i:Nat)=>.tup [.int (i:Int),.str (s.2.1.getD i [])]) [vD (sD s),vD (.lst f (xs.map .str)),vD (.lst false (g.map .str)),vD (.int (s.2.2.1:Int)),some (.own ((li s g).map oD)),none,none]=.nx [vD (sD s),vD (.lst f (xs.map .str)),vD (.lst false (g.map .str)),vD (.int (s.2.2.1:Int)),some (.own ((cK s g).map oD)),y5,y6]:=lp0;clear lp0;show ak (ao _ _ [vD (sD s),vD (.lst f (xs.map .str)),none,none,none,none,none])=_
 walk_at "run"
noncomputable def rl(Co:Addr):List D->R D:=λds=>ak (fC (leF Co) (coG Co) (aj 2 ds))
noncomputable def dq(s:St)(g:List (List Nat)):Nat:=((shO (cK s g)).map bb).sum
def Jl{f:Bool}{os:List Od}(h:∀o∈os,okO o=true)(hl:os.length<=1000):coG C [.lst f (os.map oD)]=.ok (.int ((os.map bb).sum:Nat)):=NP h hl
def MD{s:St}(h:GS s){xs:List (List Nat)}(hx:cw s.2.1.length s.1 xs=true)(hb:4 * s.1 * (s.2.1.length+1)<=900)(f:Bool):rl C [sD s,.lst f (xs.map .str)]=.ok (.int (dq s (eJ s.2.1.length s.1 xs):Int)):=by
 have e1:=Jw (C:=C) h hx hb f;have hg:=nv hx;have b1:=nO h hg;have b2:=(iC (cK s (eJ s.2.1.length s.1 xs)) []).1;have e2:=Jl (C:=C) (f:=false) (FY λo ho=>(jK h hg o ho).1) (by unfold shO;simp only[List.length_nil]at b2;omega);show ak (ao _ _ [vD (sD s),vD (.lst f (xs.map .str))])=_;unfold dq
 walk_at "run"
noncomputable def je:List Nat:=[98,114,105,110,103]
noncomputable def brS(s:St)(g:List (List Nat)):St:=(s.1,g,s.2.2)
section
variable{Cp Co:Addr}
noncomputable def vx(Co:Addr):MF:=Bj λsts _ _ b c ds=>match ds with
 | [r]=>(match rl Co [b,r],frG [b,r],b with
  |.ok (.int pr),.ok (.lst false ys),.tup [w,_,pl]=>if sts.length<1000 then .ok (.int pr) (bK (sts++[st3 (.str je) (.tup [w,.tup ys,pl]) (c+pr)]) [])else .no
  |_,_,_=>.no)
 |_=>.no
def FF:dc Cp (jH Cp fb yJ (rl Co) frG) 4 (vx Co):=by
 refine mQ λp l tk a b c ds=>?_
 match ds with
 | []=>trivial
 |_::_::_=>simp
 | [r]=>
  dsimp only;cases h1:rl Co [b,r]with
  |no=>trivial
  |ex E=>trivial
  |ok pd=>
   cases pd with
   |int pr=>
    cases h2:frG [b,r]with
    |no=>trivial
    |ex E=>trivial
    |ok yd=>
     cases yd with
     |lst f ys=>
      cases f with
      |true=>trivial
      |false=>
       cases b with
       |tup bs=>
        match bs with
        | []=>trivial
        | [_]=>trivial
        | [_,_]=>trivial
        |_::_::_::_::_=>trivial
        | [w,y,pl]=>
         dsimp only;by_cases hl:(l++[st3 a (.tup [w,y,pl]) c]).length<1000
         ·rw[if_pos hl];have s2:fb (bK (l++[st3 a (.tup [w,y,pl]) c]) tk) []=.rd (.tup [w,y,pl]):=dU _ l tk a (.tup [w,y,pl]) c [];have o0:∀m r,qP Cp (some (.obj m Cp p (bK (l++[st3 a (.tup [w,y,pl]) c]) tk))::r) 0=.ok (bK (l++[st3 a (.tup [w,y,pl]) c]) tk):=λm r=>jy rfl;have s3:yJ (bK (l++[st3 a (.tup [w,y,pl]) c]) tk) [.str je,.tup [w,.tup ys,pl],.int pr]=.ok .non (bK (l++[st3 a (.tup [w,y,pl]) c]++[st3 (.str je) (.tup [w,.tup ys,pl]) (c+pr)]) []):=(dU _ l tk a (.tup [w,y,pl]) c _).trans (if_pos hl);have o1:∀r fs,rW Cp (some (.obj true Cp p fs)::r) 0=.ok (p,fs):=λr fs=>kO rfl;have wd:D.str [98,114,105,110,103]=.str je:=rfl;have i0:ixD (.tup [w,y,pl]) (.int 0)=some w:=rfl;have i2:ixD (.tup [w,y,pl]) (.int 2)=some pl:=rfl;have t1:jR [.lst false ys]=some (.tup ys):=rfl;have mk3:∀x y z,mkT [x,y,z]=.ok (.tup [x,y,z]):=λ_ _ _=>rfl;refine⟨[some (.obj true Cp p (bK (l++[st3 a (.tup [w,y,pl]) c]++[st3 (.str je) (.tup [w,.tup ys,pl]) (c+pr)]) [])),vD r,vD (.tup [w,y,pl]),vD (.int pr)],rfl,.inl ?_⟩;show ao _ _ [some (.obj true Cp p (bK (l++[st3 a (.tup [w,y,pl]) c]) tk)),vD r,none,none]=_
          walk_at "run"
         ·rw[if_neg hl];trivial
       |_=>trivial
     |_=>trivial
   |_=>trivial
def Bs{s:St}(h:GS s){xs:List (List Nat)}(hx:cw s.2.1.length s.1 xs=true)(hb:4 * s.1 * (s.2.1.length+1)<=900){f:Bool}{l tk:List D}{a:D}{c:Int}(hl:l.length<900):
  vx Co (bK (l++[st3 a (sD s) c]) tk) [.lst f (xs.map .str)]=.ok (.int (dq s (eJ s.2.1.length s.1 xs):Int)) (bK (l++[st3 a (sD s) c]++[st3 (.str je) (sD (brS s (eJ s.2.1.length s.1 xs))) (c+(dq s (eJ s.2.1.length s.1 xs):Int))]) []):=by
 refine(dU _ l tk a (sD s) c _).trans ?_;dsimp only;rw[MD h hx hb f,GB h hx f];exact if_pos (by simp;omega)
end
def Hc{ns:List Int}{a:Nat}{s:St}(h:GS s):cw s.2.1.length s.1 (xA ns a s.1 (s.2.1.map .str))=true:=by
 have hr:ki (s.2.1.map D.str) s.1:=λr hr=>by obtain⟨x,hx,rfl⟩:=List.mem_map.1 hr;exact⟨x,rfl,h.l x hx⟩
 have h1:=vM ns a h.w1 (s.2.1.map .str) 0 hr;have h2:=iE ns a s.1 (s.2.1.map .str) 0;unfold cw xA;rw[Bool.and_eq_true,decide_eq_true_eq,List.all_eq_true];refine⟨?_,λx hx=>?_⟩;·rw[List.length_take,h2,List.length_map];omega
 ·have:=h1 x (List.mem_of_mem_take hx);unfold txt;rw[this.1,decide_eq_true this.2];rfl
section
variable{g1 g2 s1 s2:Ev->O}{gt:Ev->R Bool}{ρ':Ev}
def D5(h:g1 ρ=.re (.bl false) ρ'):xOr g1 g2 ρ=g2 ρ':=by unfold xOr;rw[h];rfl
def FD(h:g ρ=.re (.bl false) ρ'):Iz g s1 s2 ρ=s2 ρ':=by unfold Iz;rw[h];rfl
def zg(h:gt ρ=.ok false):Ej gt ρ=.re (.bl false) ρ:=by unfold Ej;rw[h];rfl
def As{ga:Ev->R D}(h:ga ρ=.ok d)(hb:gb ρ=.ok d)(hc:cl 10 d=true):gB2 neF ga gb ρ=.ok false:=by unfold gB2 L2.g2;rw[h,hb];show(ofO (neF d d))>>=asB=_;rw[yS hc];rfl
def Ki(h:gt ρ=.ok false):oIf gt s1 s2 ρ=s2 ρ:=by unfold oIf;rw[h];rfl
def JT{gu:Ev->R Bool}(h:gt ρ=.ok false):vp gt gu ρ=gu ρ:=by unfold vp;rw[h];rfl
def iB{b:Bool}{fs:List (Nat×Fd)}(h:ρ[i]?=some (some (.obj b C p fs)))(e:F fs []=.rd d):bX C i F ρ=.ok d:=by unfold bX;rw[jy h];show(F fs []).read=_;rw[e];rfl
end
noncomputable def unl(old new:List Nat)(c:Nat):Bool:=!(old.getD c 0==new.getD c 0)
noncomputable def spU(old new:List Nat)(j:Nat):List (Nat×Nat):=((List.range j).filter (unl old new)).foldl jb []
noncomputable def opn(l:List (Nat×Nat))(j:Nat):Bool:=match l.getLast? with
 |some (c,n)=>c+n==j
 |none=>false
def oH{l:List (Nat×Nat)}(h:opn l j=true):∃a c n,l=a++[(c,n)]/\c+n=j/\jb l j=a++[(c,n+1)]:=by
 rcases dQ l with rfl|⟨a,⟨c,n⟩,rfl⟩;·cases h
 ·have e:c+n=j:=by simpa[opn]using h
  exact⟨a,c,n,rfl,e,by simp[jb,e]⟩
def oz{l:List (Nat×Nat)}(h:opn l j=false):jb l j=l++[(j,1)]:=by
 rcases dQ l with rfl|⟨a,⟨c,n⟩,rfl⟩;·rfl
 ·have e:c+n≠j:=by simpa[opn]using h
  simp[jb,e]
def Bv(old new:List Nat)(j:Nat):spU old new (j+1)=if unl old new j=true then jb (spU old new j) j else spU old new j:=by
 unfold spU;rw[List.range_succ,List.filter_append];by_cases h:unl old new j=true;·rw[if_pos h,List.filter_cons_of_pos h,List.filter_nil,List.foldl_append];rfl
 ·rw[if_neg h,List.filter_cons_of_neg h,List.filter_nil,List.append_nil]
structure SpOk(l:List (Nat×Nat))(j:Nat):Prop where
 e:∀q∈l,1<=q.2/\q.1+q.2<=j
theorem Eb(old new:List Nat):∀j,SpOk (spU old new j) j
 | 0=>⟨λ_ h=>by cases h⟩
 |j+1=>by
  have ih:=(Eb old new j).e;rw[Bv];split
  ·cases e:opn (spU old new j) j with
   |true=>
    obtain⟨a,c,n,e1,e2,e3⟩:=oH e;rw[e1]at ih;rw[e3];refine⟨λq hq=>?_⟩;rcases List.mem_append.1 hq with hq|hq;·have:=ih q (List.mem_append_left _ hq);omega
    ·rw[List.mem_singleton.1 hq];dsimp only;omega
   |false=>
    rw[oz e];refine⟨λq hq=>?_⟩;rcases List.mem_append.1 hq with hq|hq;·have:=ih q hq;omega
    ·rw[List.mem_singleton.1 hq];dsimp only;omega
  ·exact⟨λq hq=>by have:=ih q hq;omega⟩
noncomputable def jz(l:List (Nat×Nat)):List Nat:=l.flatMap λq=>List.range' q.1 q.2
def AU(l:List (Nat×Nat))(j:Nat):jz (jb l j)=jz l++[j]:=by
 cases e:opn l j with
 |true=>obtain⟨a,c,n,e1,e2,e3⟩:=oH e;rw[e3,e1];unfold jz;rw[List.flatMap_append,List.flatMap_append,List.append_assoc];simp only[List.flatMap_cons,List.flatMap_nil,List.append_nil];rw[List.range'_concat,Nat.one_mul,e2]
 |false=>rw[oz e];unfold jz;rw[List.flatMap_append];rfl
theorem sw:∀(cs:List Nat)(l:List (Nat×Nat)),jz (cs.foldl jb l)=jz l++cs
 | [],l=>by simp
 |c::cs,l=>by rw[List.foldl_cons,sw cs,AU,List.append_assoc];rfl
def AY(wd:Nat)(p:List Nat×List Nat):jz (uF wd p)=su wd p.1 p.2:=by unfold uF;rw[sw];rfl
noncomputable def kI(new row:List Nat)(q:Nat×Nat):List Nat:=row.take q.1++(new.drop q.1).take q.2++row.drop (q.1+q.2)
def sk{new row:List Nat}{q:Nat×Nat}(h:new.length=row.length)(hq:q.1+q.2<=row.length):(kI new row q).length=row.length:=by unfold kI;simp;omega
def AO{new row:List Nat}{q:Nat×Nat}(h:new.length=row.length)(hq:q.1+q.2<=row.length)(i:Nat):(kI new row q)[i]?=if q.1<=i/\i<q.1+q.2 then new[i]? else row[i]?:=by
 unfold kI;have l1:(row.take q.1).length=q.1:=by rw[List.length_take];omega
 have l2:((new.drop q.1).take q.2).length=q.2:=by rw[List.length_take,List.length_drop];omega
 by_cases a:i<q.1;·rw[if_neg (by omega),List.append_assoc,List.getElem?_append_left (by omega),List.getElem?_take,if_pos a]
 ·by_cases b:i<q.1+q.2
  ·rw[if_pos ⟨by omega,b⟩,List.getElem?_append_left (by rw[List.length_append];omega),List.getElem?_append_right (by omega),l1,List.getElem?_take,if_pos (by omega),List.getElem?_drop]
   congr 1;omega
  ·rw[if_neg (by omega),List.getElem?_append_right (by rw[List.length_append];omega),List.length_append,l1,l2,List.getElem?_drop]
   congr 1;omega
theorem nB{new:List Nat}:∀(l:List (Nat×Nat)){row:List Nat},new.length=row.length->(∀q∈l,q.1+q.2<=row.length)->(l.foldl (kI new) row).length=row.length/\∀i,(l.foldl (kI new) row)[i]?=if i∈jz l then new[i]? else row[i]?
 | [],row,_,_=>⟨rfl,λi=>by rw[if_neg (by simp[jz])];rfl⟩
 |q::l,row,h,hq=>by
  have pl:=sk h (hq q (List.mem_cons_self ..));obtain⟨i1,i2⟩:=nB (new:=new) l (row:=kI new row q) (by omega) (λz hz=>by rw[pl];exact hq z (List.mem_cons_of_mem _ hz));refine⟨by rw[List.foldl_cons,i1,pl],λi=>?_⟩;rw[List.foldl_cons,i2,AO h (hq q (List.mem_cons_self ..))];have e:i∈jz (q::l) ↔ (q.1<=i/\i<q.1+q.2)\/i∈jz l:=by unfold jz;rw[List.flatMap_cons,List.mem_append,List.mem_range'_1]
  by_cases a:i∈jz l;·rw[if_pos a,if_pos (e.2 (.inr a))]
  ·rw[if_neg a];by_cases b:q.1<=i/\i<q.1+q.2;·rw[if_pos b,if_pos (e.2 (.inl b))]
   ·rw[if_neg b,if_neg (λz=>by rcases e.1 z with z|z;exact b z;exact a z)]
def G0{wd:Nat}{p:List Nat×List Nat}(h:p.1.length=wd):∀q∈uF wd p,1<=q.2/\q.1+q.2<=wd:=by subst h;exact(Eb p.1 p.2 p.1.length).e
def tO{wd:Nat}{new:List Nat}(h1:old.length=wd)(h2:new.length=wd):(uF wd (old,new)).foldl (kI new) old=new:=by
 obtain⟨e1,e2⟩:=nB (new:=new) (uF wd (old,new)) (row:=old) (by omega) (λq hq=>by have:=G0 h1 q hq;omega);refine List.ext_getElem? λi=>?_;rw[e2,AY];by_cases a:i∈su wd old new;·rw[if_pos a]
 ·rw[if_neg a];by_cases b:i<wd
  ·unfold su at a;rw[List.mem_filter]at a;have c:old.getD i 0=new.getD i 0:=by have : ¬ ((!(old.getD i 0==new.getD i 0))=true):=λz=>a ⟨List.mem_range.2 b,z⟩;simpa using this
   rw[gA (by omega),gA (by omega),c]
  ·rw[List.getElem?_eq_none (by omega),List.getElem?_eq_none (by omega)]
noncomputable abbrev Tr:=Nat×Nat×Nat
noncomputable def prL(rows g:List (List Nat)):List (List Nat×List Nat):=List.zipWith Prod.mk rows g
theorem yy:∀rows g:List (List Nat),prs (rows.map .str) (g.map .str)=prL rows g
 | [],_=>rfl
 |_::_,[]=>rfl
 |x::rows,y::g=>congrArg ((x,y)::·) (yy rows g)
noncomputable def ux(wd:Nat)(rows g:List (List Nat)):List Tr:=spP wd 0 (prL rows g)
noncomputable def Gp(g:List (List Nat))(t:Tr):List Od:=[.go t.1 t.2.1,.say (((g.getD t.1 []).drop t.2.1).take t.2.2)]
theorem sQ(f:Nat->List Od):∀l:List Nat,((l.flatMap f).map bb).sum=(l.map λi=>((f i).map bb).sum).sum
 | []=>rfl
 |i::l=>by rw[List.flatMap_cons,List.map_append,List.sum_append,sQ f l];simp
theorem tB(e:Nat->Nat)(r:Nat):∀n,((List.range n).map λi=>if i=r then 0 else e i).sum+(if r<n then e r else 0)=((List.range n).map e).sum
 | 0=>rfl
 |n+1=>by
  have ih:=tB e r n;rw[List.range_succ,List.map_append,List.map_append,List.sum_append,List.sum_append];simp only[List.map_cons,List.map_nil,List.sum_cons];by_cases a:n=r;·subst a;rw[if_pos rfl,if_pos (by omega)];rw[if_neg (by omega)]at ih;omega
  ·rw[if_neg a];by_cases b:r<n;·rw[if_pos (by omega)];rw[if_pos b]at ih;omega
   ·rw[if_neg (by omega)];rw[if_neg b]at ih;omega
def FH{wd:Nat}{rows g:List (List Nat)}{c n r0 c0:Nat}(hk:k<rows.length)(hc:c+n<=wd)(hg:(g.getD k []).length=wd):rn (some (wd,rows,r0,c0)) (Gp g (k,c,n))=some (wd,rows.set k (kI (g.getD k []) (rows.getD k []) (c,n)),k,c+n):=by
 have l1:(((g.getD k []).drop c).take n).length=n:=by rw[List.length_take,List.length_drop];omega
 show(aW (wd,rows,r0,c0) (.go k c)).bind (λs=>aW s (.say (((g.getD k []).drop c).take n)))=_;have e1:aW (wd,rows,r0,c0) (.go k c)=some (wd,rows,k,c):=if_neg (by omega);rw[e1];show aW (wd,rows,k,c) (.say _)=_;unfold aW;dsimp only;rw[l1,if_neg (by omega)];rfl
theorem DH{wd:Nat}{g:List (List Nat)}{k:Nat}(hg:(g.getD k []).length=wd):∀(l:List (Nat×Nat)){rows:List (List Nat)}{r0 c0:Nat},k<rows.length->(rows.getD k []).length=wd->(∀q∈l,q.1+q.2<=wd)->
  ∃r1 c1,rn (some (wd,rows,r0,c0)) ((l.map (emb k)).flatMap (Gp g))=some (wd,rows.set k (l.foldl (kI (g.getD k [])) (rows.getD k [])),r1,c1)
 | [],rows,r0,c0,hk,_,_=>⟨r0,c0,by
   show some _=_
   congr 3
   show rows=rows.set k (rows.getD k []);rw[List.getD_eq_getElem?_getD,List.getElem?_eq_getElem hk];exact(List.set_getElem_self hk).symm⟩
 |q::l,rows,r0,c0,hk,hw,hq=>by
  have pl:=sk (new:=g.getD k []) (row:=rows.getD k []) (by omega) (by rw[hw];exact hq q (List.mem_cons_self ..));have gk:(rows.set k (kI (g.getD k []) (rows.getD k []) q)).getD k []=kI (g.getD k []) (rows.getD k []) q:=by rw[List.getD_eq_getElem?_getD,List.getElem?_set_self hk];rfl
  obtain⟨r1,c1,ih⟩:=DH hg l (rows:=rows.set k (kI (g.getD k []) (rows.getD k []) q)) (by rw[List.length_set];exact hk) (by rw[gk,pl,hw]) (λz hz=>hq z (List.mem_cons_of_mem _ hz));refine⟨r1,c1,?_⟩;rw[List.map_cons,List.flatMap_cons,fh];show rn (rn (some (wd,rows,r0,c0)) (Gp g (k,q.1,q.2))) _=_;rw[FH hk (hq q (List.mem_cons_self ..)) hg,ih,gk,List.set_set,List.foldl_cons]
theorem yk{wd:Nat}{g:List (List Nat)}:∀(ps:List (List Nat×List Nat))(k:Nat){rows:List (List Nat)}{r0 c0:Nat},rows.drop k=ps.map (·.1)->g.drop k=ps.map (·.2)->(∀p∈ps,p.1.length=wd/\p.2.length=wd)->
  ∃r1 c1,rn (some (wd,rows,r0,c0)) ((spP wd k ps).flatMap (Gp g))=some (wd,rows.take k++ps.map (·.2),r1,c1)
 | [],k,rows,r0,c0,h1,_,_=>⟨r0,c0,by
   show some _=_
   congr 3
   have:=List.take_append_drop k rows;rw[h1]at this;exact this.symm⟩
 |p::ps,k,rows,r0,c0,h1,h2,hw=>by
  have hk:k<rows.length:=by have:=congrArg List.length h1;simp at this;omega
  have hk2:k<g.length:=by have:=congrArg List.length h2;simp at this;omega
  rw[List.drop_eq_getElem_cons hk,List.map_cons]at h1;rw[List.drop_eq_getElem_cons hk2,List.map_cons]at h2;injection h1 with a1 a2;injection h2 with b1 b2;have a0:rows.getD k []=p.1:=by rw[List.getD_eq_getElem?_getD,List.getElem?_eq_getElem hk,<- a1];rfl
  have b0:g.getD k []=p.2:=by rw[List.getD_eq_getElem?_getD,List.getElem?_eq_getElem hk2,<- b1];rfl
  obtain⟨w1,w2⟩:=hw p (List.mem_cons_self ..);obtain⟨r1,c1,e1⟩:=DH (by rw[b0];exact w2) (uF wd p) hk (by rw[a0];exact w1) (λq hq=>(G0 w1 q hq).2);rw[a0,b0,tO w1 w2]at e1;obtain⟨r2,c2,ih⟩:=yk ps (k+1) (rows:=rows.set k p.2) (by rw[List.drop_set_of_lt (by omega)];exact a2) b2 (λz hz=>hw z (List.mem_cons_of_mem _ hz));refine⟨r2,c2,?_⟩;rw[spP,List.flatMap_append,fh,e1,ih,List.take_add_one,List.getElem?_set_self hk,List.take_set_of_le (by omega),List.append_assoc];rfl
theorem Ap(wd:Nat):∀(ps:List (List Nat×List Nat))(k:Nat),(∀p∈ps,p.1.length=wd)->∀t∈spP wd k ps,t.1<k+ps.length/\1<=t.2.2/\t.2.1+t.2.2<=wd
 | [],_,_,_,h=>by cases h
 |p::ps,k,hp,t,h=>by
  rcases List.mem_append.1 h with h|h;·obtain⟨q,hq,rfl⟩:=List.mem_map.1 h;have:=G0 (hp p (List.mem_cons_self ..)) q hq;simp only[emb,List.length_cons];omega
  ·have:=Ap wd ps (k+1) (λz hz=>hp z (List.mem_cons_of_mem _ hz)) t h;simp only[List.length_cons];omega
noncomputable def xS(t:Tr):List (Nat×Nat):=(List.range' t.2.1 t.2.2).map λc=>(t.1,c)
theorem wI(k:Nat):∀l:List (Nat×Nat),(l.map (emb k)).flatMap xS=(jz l).map λc=>(k,c)
 | []=>rfl
 |q::l=>by rw[List.map_cons,List.flatMap_cons,wI k l];unfold jz;rw[List.flatMap_cons,List.map_append];rfl
theorem oQ(wd:Nat):∀(ps:List (List Nat×List Nat))(k:Nat),(spP wd k ps).flatMap xS=eK wd k ps
 | [],_=>rfl
 |p::ps,k=>by rw[spP,eK,List.flatMap_append,wI,AY,oQ wd ps]
noncomputable def usG:List D->R D:=λds=>ak (dC crN frG (aj 6 ds))
noncomputable def Fp:List D->R D:=λds=>ak (mU usG Bi (aj 5 ds))
section
variable{s:St}{xs:List (List Nat)}
def FL(s:St)(g:List (List Nat))(h:GS s)(hg:GL s g):(eK s.1 0 (prL s.2.1 g)).length<=480:=by
 have hsl:=fU s.1 (prL s.2.1 g) 0;have hpl:(prL s.2.1 g).length=s.2.1.length:=by unfold prL;rw[List.length_zipWith,hg.n];omega
 rw[hpl]at hsl;have hm:=Nat.mul_le_mul (by have:=h.w2;omega) (by have:=h.m;omega);omega
def Jc(h:GS s)(hx:cw s.2.1.length s.1 xs=true)(f:Bool):usG [sD s,.lst f (xs.map .str)]=.ok (.lst false ((eK s.1 0 (prL s.2.1 (eJ s.2.1.length s.1 xs))).map spD)):=by
 have e2:=IB h hx f;have e3:=GB h hx f;have hg:=nv hx;have q1:ki ((eJ s.2.1.length s.1 xs).map .str) s.1:=λr hr=>by obtain⟨x,m,rfl⟩:=List.mem_map.1 hr;exact⟨x,rfl,hg.l x m⟩
 have hw:=h.w2;have hm:=h.m;have hn:=hg.n;obtain⟨y3,y4,y5,hL⟩:=oG (F1:=crN) (F2:=frG) (by omega) (Gn h.screen) (.tup [.int (s.2.2.1:Int),.int (s.2.2.2:Int)]) (some (.val (.lst f (xs.map .str)))) ((eJ s.2.1.length s.1 xs).map .str) 0 none none none [] (by simp;omega) q1 (by simp;omega);rw[List.nil_append,vK _ _ _ _ (by rw[List.length_map,List.length_map];omega),List.drop_zero,yy]at hL;show ak (ao _ _ [some (.val (sD s)),some (.val (.lst f (xs.map .str))),none,none,none,none])=_;have f2:∀(a0 a1 a3 a4 a5:Option Sl)(ds:List D),frz 2 [a0,a1,some (.own ds),a3,a4,a5]=[a0,a1,some (.val (.lst false ds)),a3,a4,a5]:=λ_ _ _ _ _ _=>rfl;have en:∀l:List D,pN (.lst false l)=.ok (br 0 l):=λ_=>rfl;have z0:(0:Nat)<=sizeLine:=Nat.zero_le _;have eS:sD s=.tup [.int (s.1:Int),.tup (s.2.1.map .str),.tup [.int (s.2.2.1:Int),.int (s.2.2.2:Int)]]:=rfl;rw[<- eS]at hL;clear hw hm hn q1 hg eS hx h
 walk_at "run"
def Gf(h:GS s)(hx:cw s.2.1.length s.1 xs=true)(f:Bool):Fp [sD s,.lst f (xs.map .str)]=.ok (.lst false ((ux s.1 s.2.1 (eJ s.2.1.length s.1 xs)).map snD)):=by
 have e2:=Jc h hx f;have hn:=FL s _ h (nv hx);obtain⟨y3,y4,hL⟩:=oW (some (.val (sD s))) (some (.val (.lst f (xs.map .str)))) (eK s.1 0 (prL s.2.1 (eJ s.2.1.length s.1 xs))) [] none none (by simp;omega);rw[vJ s.1 _ 0 [] (λs h=>by cases h),List.nil_append]at hL;have hL:cg (la 3) (ka usG Bi) ((eK s.1 0 (prL s.2.1 (eJ s.2.1.length s.1 xs))).map spD) [some (.val (sD s)),some (.val (.lst f (xs.map .str))),some (.own []),none,none]=.nx [some (.val (sD s)),some (.val (.lst f (xs.map .str))),some (.own ((ux s.1 s.2.1 (eJ s.2.1.length s.1 xs)).map snD)),y3,y4]:=hL;show ak (ao _ _ [some (.val (sD s)),some (.val (.lst f (xs.map .str))),none,none,none])=_;have f2:∀(a0 a1 a3 a4:Option Sl)(ds:List D),frz 2 [a0,a1,some (.own ds),a3,a4]=[a0,a1,some (.val (.lst false ds)),a3,a4]:=λ_ _ _ _ _=>rfl;have il:=KF;have z0:(0:Nat)<=sizeLine:=Nat.zero_le _
 walk_at "run"
end
noncomputable def doG(F1 F2:List D->R D):MF:=Bj λsts _ _ b c ds=>match ds with
 | [o]=>(match F1 [b,o]with
  |.ok b'=>(match F2 [o]with
   |.ok (.int p)=>if sts.length<1000 then .ok (.int (c+p)) (bK (sts++[st3 (.str wDo) b' (c+p)]) [])else .no
   |_=>.no)
  |.ex E=>.ex E
  |.no=>.no)
 |_=>.no
def LA{Cp:Addr}{F1 F2:List D->R D}:dc Cp (oy Cp fb yJ ff F1 F2) 3 (doG F1 F2):=by
 refine mQ λp l tk a b c ds=>?_
 match ds with
 | []=>trivial
 |_::_::_=>simp
 | [o]=>
  dsimp only;have s2:fb (bK (l++[st3 a b c]) tk) []=.rd b:=dU _ l tk a b c [];have o0:∀m r,qP Cp (some (.obj m Cp p (bK (l++[st3 a b c]) tk))::r) 0=.ok (bK (l++[st3 a b c]) tk):=λm r=>jy rfl;cases hd:F1 [b,o]with
  |no=>trivial
  |ex E=>
   refine⟨[some (.obj false Cp p (bK (l++[st3 a b c]) tk)),some (.val o),none],?_⟩;show ao _ _ [some (.obj false Cp p (bK (l++[st3 a b c]) tk)),some (.val o),none]=_
   walk_at "run"
  |ok b'=>
   cases ho:F2 [o]with
   |ex E=>trivial
   |no=>trivial
   |ok pd=>
    cases pd with
    |int pr=>
     dsimp only;by_cases hl:(l++[st3 a b c]).length<1000
     ·rw[if_pos hl];have s1:ff (bK (l++[st3 a b c]++[st3 (.str wDo) b' (c+pr)]) []) []=.rd (.int (c+pr)):=dU _ (l++[st3 a b c]) [] (.str wDo) b' (c+pr) [];have s3:yJ (bK (l++[st3 a b c]) tk) [.str wDo,b',.int pr]=.ok .non (bK (l++[st3 a b c]++[st3 (.str wDo) b' (c+pr)]) []):=(dU _ l tk a b c _).trans (if_pos hl);have o1:∀r fs,rW Cp (some (.obj true Cp p fs)::r) 0=.ok (p,fs):=λr fs=>kO rfl;have o2:∀r,qP Cp (some (.obj true Cp p (bK (l++[st3 a b c]++[st3 (.str wDo) b' (c+pr)]) []))::r) 0=.ok (bK (l++[st3 a b c]++[st3 (.str wDo) b' (c+pr)]) []):=λr=>jy rfl;have wd:D.str [100,111]=.str wDo:=rfl;refine⟨[some (.obj true Cp p (bK (l++[st3 a b c]++[st3 (.str wDo) b' (c+pr)]) [])),some (.val o),some (.val b')],rfl,.inl ?_⟩;show ao _ _ [some (.obj true Cp p (bK (l++[st3 a b c]) tk)),some (.val o),none]=_
      walk_at "run"
     ·rw[if_neg hl];trivial
    |_=>trivial
noncomputable def kL(Cs Co Cr:Addr):List D->R D:=λds=>ak (jL (jd Cs) (ckG Co) (aoG Cr) (aj 2 ds))
def JR{Cs Co Cr:Addr}{s s':St}{o:Od}(h:GS s)(ho:okO o=true)(e:aW s o=some s'):kL Cs Co Cr [sD s,oD o]=.ok (sD s'):=by
 have e1:=nC (C:=Cs) h.screen;have e2:=MZ (C:=Co) ho;have e3:=Os (C:=Cr) h ho;rw[e]at e3;change _=R.ok (sD s')at e3;show ak (jL _ _ _ [some (.val (sD s)),some (.val (oD o))])=_;unfold jL
 walk_at "run"
def KH{Cs Co Cr:Addr}{s s':St}{o:Od}(h:GS s)(ho:okO o=true)(e:aW s o=some s'){l tk:List D}{a:D}{c:Int}(hl:l.length<900):
  doG (kL Cs Co Cr) ocG (bK (l++[st3 a (sD s) c]) tk) [oD o]=.ok (.int (c+(bb o:Int))) (bK (l++[st3 a (sD s) c]++[st3 (.str wDo) (sD s') (c+(bb o:Int))]) []):=by
 unfold doG;rw[dU];dsimp only;rw[JR h ho e];rw[MS];dsimp only;rw[if_pos (by simp;omega)]
theorem tW{Cs Co Cr:Addr}{body:Ev->O}{set:D->Ev->R Ev}(mk:List (Nat×Fd)->Option Sl->Ev)(hs:∀fs x y,set y (mk fs x)=.ok (mk fs (vD y)))(hb:∀{fs fs':List (Nat×Fd)}{u d:D},doG (kL Cs Co Cr) ocG fs [u]=.ok d fs'->body (mk fs (vD u))=.nx (mk fs' (vD u))):
  ∀(os:List Od){s s':St}(l tk:List D)(a:D)(c:Int)(x:Option Sl),GS s->(∀o∈os,okO o=true)->rn (some s) os=some s'->l.length+os.length<900->
   ∃l' tk' a' y,l'.length<=l.length+os.length/\cg set body (os.map oD) (mk (bK (l++[st3 a (sD s) c]) tk) x)=.nx (mk (bK (l'++[st3 a' (sD s') (c+fm os)]) tk') y)
 | [],s,s',l,tk,a,c,x,h,ho,e,hl=>by cases e;exact⟨l,tk,a,x,Nat.le_refl _,by unfold fm;simp[cg]⟩
 |o::os,s,s',l,tk,a,c,x,h,ho,e,hl=>by
  have e:rn (aW s o) os=some s':=e;have ok:=ho o (List.mem_cons_self ..);cases z:aW s o with
  |none=>rw[z,dG]at e;cases e
  |some t=>rw[z]at e;simp only[List.length_cons]at hl;obtain⟨l',tk',a',y,hl',ih⟩:=tW mk hs hb os (l++[st3 a (sD s) c]) [] (.str wDo) (c+(bb o:Int)) (vD (oD o)) (gC h ok z) (λp hp=>ho p (List.mem_cons_of_mem _ hp)) e (by simp;omega);refine⟨l',tk',a',y,by simp at hl'⊢;omega,?_⟩;refine(dX (hs _ _ _) (hb (KH h ok z (by omega)))).trans (ih.trans ?_);rw[iL,Int.add_assoc]
noncomputable def cnt(f:Nat->Bool)(b k:Nat):Nat:=((List.range' b k).filter f).length
noncomputable def b1(b:Bool):Nat:=if b then 1 else 0
def gf(f:Nat->Bool)(b k:Nat):cnt f b (k+1)=cnt f b k+b1 (f (b+k)):=by unfold cnt b1;rw[List.range'_1_concat,List.filter_append,List.length_append];cases e:f (b+k) <;> simp[e]
def lK(f:Nat->Bool)(a k:Nat):cnt f 0 (a+k)=cnt f 0 a+cnt f a k:=by
 induction k with
 |zero=>simp[cnt]
 |succ k ih=>rw[<- Nat.add_assoc,gf,gf,ih,Nat.zero_add];omega
theorem zw{f g:Nat->Bool}{c:Nat}(h:∀j,j≠c->g j=f j)(b:Nat):∀k,cnt g b k<=cnt f b k+(if b<=c/\c<b+k then 1 else 0)
 | 0=>by simp[cnt]
 |k+1=>by
  have ih:=zw h b k;rw[gf,gf];by_cases z:b+k=c
  ·rw[if_neg (by omega)]at ih;rw[if_pos (by omega)];have:b1 (g (b+k))<=1:=by unfold b1;split <;> omega
   omega
  ·rw[h _ z];by_cases y:b<=c/\c<b+k;·rw[if_pos y]at ih;rw[if_pos (by omega)];omega
   ·rw[if_neg y]at ih;rw[if_neg (by omega)];omega
section
variable{m:Mp}{h w:Bool}{v n c:Nat}
def tu(H:Has m (h,w) v):Has (gM m n c) (h,w) v:=H.keep.keep.keep
def Jx(H:Has m (false,w) v):Has (gM m n c) (true,w) (v+2):=by
 cases w with
 |false=>exact H.move.keep.keep
 |true=>exact H.keep.keep.move
def EC(H:Has m (true,false) v):Has (gM m n c) (true,true) (v+1):=H.keep.move.keep
def FU(H:Has m (false,false) v):Has (gM m n c) (true,true) (v+3):=by have:Has (gM m n c) (true,true) (v+2+1):=H.move.move.keep;exact this
def D9{g p:Bool}(H:Has m (h,w) v)(a:h=true\/g=true):Has (gM m n c) (true,w || p) (v+2 * b1 g+b1 p):=by
 cases h with
 |true=>
  cases p with
  |false=>rw[Bool.or_false];exact(tu H).mono (by omega)
  |true=>
   cases w with
   |true=>exact(tu H).mono (by omega)
   |false=>exact(EC H).mono (by show v+1<=v+_+1;omega)
 |false=>
  have e:=a.resolve_left (λz=>by cases z);subst e;cases p with
  |false=>rw[Bool.or_false];exact(Jx H).mono (by show v+2<=v+2 * 1+_;omega)
  |true=>
   cases w with
   |true=>exact(Jx H).mono (by show v+2<=v+2 * 1+1;omega)
   |false=>exact(FU H).mono (by show v+3<=v+2 * 1+1;omega)
def BB{new:List Nat}{s g p:Bool}(H:Has m (h,w) v)(a:s=true\/p=true->h=true\/g=true)(e:s=false->und (old.getD c 0) (w || p)=new.getD c 0):Has (xO n old new m c) (s,w || p) (v+b1 s+2 * b1 g+b1 p):=by
 cases s with
 |true=>exact(D9 H (a (.inl rfl))).say.mono (by show v+2 * b1 g+b1 p+1<=v+1+2 * b1 g+b1 p;omega)
 |false=>
  cases p with
  |true=>exact((D9 H (a (.inr rfl))).leave (e rfl)).mono (by show v+2 * b1 g+1<=v+0+2 * b1 g+1;omega)
  |false=>have e1:=e rfl;rw[Bool.or_false]at e1⊢;exact((tu H).leave e1).mono (by omega)
end
noncomputable def wb(wp:Nat->Bool)(j:Nat):Bool:=(List.range j).any wp
def yN(wp:Nat->Bool)(j:Nat):wb wp (j+1)=(wb wp j || wp j):=by unfold wb;rw[List.range_succ,List.any_append,List.any_cons,List.any_nil,Bool.or_false]
theorem vB(n:Nat){old new:List Nat}{sd gn wp:Nat->Bool}{b:Nat}{h0:Bool}(hw:wb wp b=false):∀k,(∀j,b<=j->j<b+k->sd j=false->und (old.getD j 0) (wb wp (j+1))=new.getD j 0)->(∀j,b<=j->j<b+k->sd j=true\/wp j=true->(j=b/\h0=true)\/gn j=true\/(b<j/\sd (j - 1)=true))->
  Has ((List.range' b k).foldl (xO n old new) (m0 (h0,false))) ((if k=0 then h0 else sd (b+k - 1)),wb wp (b+k)) (cnt sd b k+2 * cnt gn b k+cnt wp b k)
 | 0,_,_=>by rw[if_pos rfl,Nat.add_zero,hw];exact(Nv (h0,false)).mono (Nat.zero_le _)
 |k+1,p1,p2=>by
  have ih:=vB n hw k (λj a b=>p1 j a (by omega)) (λj a b=>p2 j a (by omega));rw[List.range'_1_concat,List.foldl_append,List.foldl_cons,List.foldl_nil,if_neg (Nat.succ_ne_zero k),show b+(k+1)=b+k+1 from rfl,Nat.add_sub_cancel,yN,gf,gf,gf];refine(BB (g:=gn (b+k)) ih ?_ ?_).mono (by omega)
  ·intro q;rcases p2 (b+k) (by omega) (by omega) q with⟨z,z2⟩|z|⟨z,z2⟩
   ·have:k=0:=by omega
    rw[if_pos this];exact .inl z2
   ·exact .inr z
   ·rw[if_neg (by omega)];exact .inl z2
  ·intro q;have:=p1 (b+k) (by omega) (by omega) q;rw[yN]at this;exact this
def Dc(n:Nat){new:List Nat}{sd gn wp:Nat->Bool}(p1:∀j,j<old.length->sd j=false->und (old.getD j 0) (wb wp (j+1))=new.getD j 0)(p2:∀j,sd j=true\/wp j=true->gn j=true\/(0<j/\sd (j - 1)=true)):
  (dz n old new).1<=cnt sd 0 old.length+2 * cnt gn 0 old.length+cnt wp 0 old.length:=by
 have:=vB n (h0:=false) rfl old.length (λj _ h=>p1 j (by omega)) (λj _ _ q=>.inr (p2 j q));exact qp (by generalize (if old.length=0 then false else sd (0+old.length - 1))=x;generalize wb wp (0+old.length)=y;revert x y;decide) this
def iU{x:List Nat}{c:Nat}(h:j<c):(x.take c).getD j 0=x.getD j 0:=by rw[List.getD_eq_getElem?_getD,List.getElem?_take,if_pos h,List.getD_eq_getElem?_getD]
def ym(n:Nat){new:List Nat}{sd gn wp:Nat->Bool}{c:Nat}(hc:c<=old.length)(p1:∀j,j<old.length->sd j=false->und (old.getD j 0) (wb wp (j+1))=new.getD j 0)(p2:∀j,sd j=true\/wp j=true->gn j=true\/(0<j/\sd (j - 1)=true)\/j=c)(lo:∀w,w<c->wp w=false):
  (dk n old new c).1<=cnt sd 0 old.length+2 * cnt gn 0 old.length+cnt wp 0 old.length:=by
 have hw:∀j,j<=c->wb wp j=false:=λj hj=>by unfold wb;rw[List.any_eq_false];intro w hw;rw[lo w (by have:=List.mem_range.1 hw;omega)];decide
 have r:=vB n (hw c (Nat.le_refl _)) (old.length - c) (λj _ h=>p1 j (by omega)) (λj a _ q=>by
  rcases p2 j q with z|z|z;·exact .inr (.inl z)
  ·by_cases y:j=c;·exact .inl ⟨y,rfl⟩
   ·exact .inr (.inr ⟨by omega,z.2⟩)
  ·exact .inl ⟨z,rfl⟩);have r1:(gQ n old new c).1<=_:=qp (by
  generalize (if old.length - c=0 then true else sd (c+(old.length - c) - 1))=x;generalize wb wp (c+(old.length - c))=y;revert x y;decide) r;have lt:(old.take c).length=c:=by rw[List.length_take];omega
 have l:=vB n (old:=old.take c) (new:=new.take c) (b:=0) (h0:=false) rfl c (λj _ h q=>by rw[iU (by omega),iU (by omega)];exact p1 j (by omega) q) (λj _ h q=>by
  rcases p2 j q with z|z|z;·exact .inr (.inl z)
  ·exact .inr (.inr z)
  ·omega);rw[Nat.zero_add,hw c (Nat.le_refl _)]at l;have l1:(kR n old new c).1<=_:=qp (k:=((if c=0 then false else sd (c - 1)),false)) (by
  generalize (if c=0 then false else sd (c - 1))=x;revert x;decide) (by unfold gU;rw[lt,Nat.sub_zero];exact l);have s1:=lK sd c (old.length - c);have s2:=lK gn c (old.length - c);have s3:=lK wp c (old.length - c);rw[show c+(old.length - c)=old.length by omega]at s1 s2 s3;show(gQ n old new c).1+(kR n old new c).1<=_;omega
structure Fl where
 sd:Nat->Nat->Bool
 gn:Nat->Nat->Bool
 wp:Nat->Nat->Bool
noncomputable def kW(f:Nat->Nat->Bool)(r c n:Nat):Nat->Nat->Bool:=λi j=>(i==r && (decide (c<=j) && decide (j<c+n))) || f i j
def qf{f:Nat->Nat->Bool}{r c n:Nat}(h:i≠r)(j:Nat):kW f r c n i j=f i j:=by unfold kW;rw[beq_eq_false_iff_ne.2 h];rfl
def iR{f:Nat->Nat->Bool}{r c n:Nat}(h:f i j=true):kW f r c n i j=true:=by unfold kW;rw[h,Bool.or_true]
def gh{f:Nat->Nat->Bool}{r c n:Nat}(h1:c<=j)(h2:j<c+n):kW f r c n r j=true:=by unfold kW;rw[beq_self_eq_true,decide_eq_true h1,decide_eq_true h2];rfl
def pb{f:Nat->Nat->Bool}{r c n:Nat}(h:kW f r c n i j=true):(i=r/\c<=j/\j<c+n)\/f i j=true:=by unfold kW at h;simp only[Bool.or_eq_true,Bool.and_eq_true,beq_iff_eq,decide_eq_true_eq]at h;exact h
def EJ{f:Nat->Nat->Bool}{r c n:Nat}(h:kW f r c n i j=false): ¬ (i=r/\c<=j/\j<c+n)/\f i j=false:=by
 constructor;·rintro ⟨rfl,a,b⟩;rw[gh a b]at h;cases h
 ·cases e:f i j with
  |false=>rfl
  |true=>rw[iR e]at h;cases h
theorem qH(f:Nat->Nat->Bool)(r c k:Nat):∀n,cnt (kW f r c n r) 0 k<=cnt (f r) 0 k+n
 | 0=>by
  have:kW f r c 0 r=f r:=funext λj=>by
   unfold kW;by_cases h:c<=j;·rw[decide_eq_false (show ¬ j<c+0 by omega)];simp
   ·rw[decide_eq_false h];simp
  rw[this];exact Nat.le_refl _
 |n+1=>by
  have ih:=qH f r c k n;have:=zw (f:=kW f r c n r) (g:=kW f r c (n+1) r) (c:=c+n) (λj hj=>by
   unfold kW;by_cases h:c<=j
   ·by_cases h2:j<c+n;·rw[decide_eq_true h2,decide_eq_true (show j<c+(n+1) by omega)]
    ·rw[decide_eq_false h2,decide_eq_false (show ¬ j<c+(n+1) by omega)]
   ·rw[decide_eq_false h];rfl) 0 k;have z:(if 0<=c+n/\c+n<0+k then 1 else 0)<=1:=by split <;> omega
  omega
noncomputable def flS(s:St)(o:Od)(f:Fl):Fl:=match o with
 |.say x=>{ f with sd:=kW f.sd s.2.2.1 s.2.2.2 x.length }
 |.go n k=>{ f with gn:=kW f.gn n k 1 }
 |.wipe=>{ f with wp:=kW f.wp s.2.2.1 s.2.2.2 1 }
noncomputable def qT(wd:Nat)(f:Fl)(i:Nat):Nat:=cnt (f.sd i) 0 wd+2 * cnt (f.gn i) 0 wd+cnt (f.wp i) 0 wd
noncomputable def yb(m wd:Nat)(f:Fl):Nat:=((List.range m).map (qT wd f)).sum
theorem DM{g h:Nat->Nat}{r d:Nat}(e:∀i,i≠r->g i=h i)(l:g r<=h r+d):∀m,((List.range m).map g).sum<=((List.range m).map h).sum+(if r<m then d else 0)
 | 0=>by simp
 |m+1=>by
  have ih:=DM e l m;rw[List.range_succ,List.map_append,List.map_append,List.sum_append,List.sum_append];simp only[List.map_cons,List.map_nil,List.sum_cons];by_cases z:m=r;·subst z;rw[if_neg (by omega)]at ih;rw[if_pos (by omega)];omega
  ·rw[e m z];by_cases y:r<m;·rw[if_pos y]at ih;rw[if_pos (by omega)];omega
   ·rw[if_neg y]at ih;rw[if_neg (by omega)];omega
def qD(m wd:Nat)(s:St)(o:Od)(f:Fl):yb m wd (flS s o f)<=yb m wd f+bb o:=by
 have key:∀r,(∀i,i≠r->qT wd (flS s o f) i=qT wd f i)->qT wd (flS s o f) r<=qT wd f r+bb o->yb m wd (flS s o f)<=yb m wd f+bb o:=λr a b=>by
  have:=DM a b m;have z:(if r<m then bb o else 0)<=bb o:=by split <;> omega
  unfold yb;omega
 cases o with
 |say x=>
  refine key s.2.2.1 (λi hi=>?_) ?_;·unfold qT;rw[show(flS s (.say x) f).sd i=f.sd i from funext λj=>qf hi j];rfl
  ·have:=qH f.sd s.2.2.1 s.2.2.2 wd x.length;show cnt (kW f.sd s.2.2.1 s.2.2.2 x.length s.2.2.1) 0 wd+_+_<=_+x.length;unfold qT;show _+2 * cnt (f.gn _) 0 wd+cnt (f.wp _) 0 wd<=_;omega
 |go n k=>
  refine key n (λi hi=>?_) ?_;·unfold qT;rw[show(flS s (.go n k) f).gn i=f.gn i from funext λj=>qf hi j];rfl
  ·have:=qH f.gn n k wd 1;show _+2 * cnt (kW f.gn n k 1 n) 0 wd+_<=_+2;unfold qT;show cnt (f.sd _) 0 wd+_+cnt (f.wp _) 0 wd<=_;omega
 |wipe=>
  refine key s.2.2.1 (λi hi=>?_) ?_;·unfold qT;rw[show(flS s .wipe f).wp i=f.wp i from funext λj=>qf hi j];rfl
  ·have:=qH f.wp s.2.2.1 s.2.2.2 wd 1;show _+_+cnt (kW f.wp s.2.2.1 s.2.2.2 1 s.2.2.1) 0 wd<=_+1;unfold qT;show cnt (f.sd _) 0 wd+2 * cnt (f.gn _) 0 wd+_<=_;omega
structure Iv(s0:St)(b:Bool)(f:Fl)(s:St):Prop where
 wd:s.1=s0.1
 m:s.2.1.length=s0.2.1.length
 row:∀i j,i<s0.2.1.length->j<s0.1->f.sd i j=false->(s.2.1.getD i []).getD j 0=und ((s0.2.1.getD i []).getD j 0) (wb (f.wp i) (j+1))
 at':∀i j,f.sd i j=true\/f.wp i j=true->f.gn i j=true\/(0<j/\f.sd i (j - 1)=true)\/(b=true/\i=s0.2.2.1/\j=s0.2.2.2)
 pl:f.gn s.2.2.1 s.2.2.2=true\/(0<s.2.2.2/\f.sd s.2.2.1 (s.2.2.2 - 1)=true)\/(b=true/\s.2.2.1=s0.2.2.1/\s.2.2.2=s0.2.2.2)
def AS{f:Nat->Nat->Bool}{r c:Nat}(h:i≠r)(j:Nat):wb (kW f r c 1 i) j=wb (f i) j:=by rw[show kW f r c 1 i=f i from funext λk=>qf h k]
def Ae{f:Nat->Bool}{c:Nat}(h:f c=true)(hc:c<j):wb f j=true:=by unfold wb;rw[List.any_eq_true];exact⟨c,List.mem_range.2 hc,h⟩
def yP{f:Nat->Nat->Bool}{r c:Nat}(h:j<=c):wb (kW f r c 1 r) j=wb (f r) j:=by
 unfold wb;rw[Bool.eq_iff_iff,List.any_eq_true,List.any_eq_true];constructor
 ·rintro ⟨k,hk,e⟩;refine⟨k,hk,?_⟩;rcases pb e with z|z;·have:=List.mem_range.1 hk;omega
  ·exact z
 ·rintro ⟨k,hk,e⟩;exact⟨k,hk,iR e⟩
def dW{rows:List (List Nat)}{r:Nat}{x:List Nat}:(rows.set r x).getD i []=if i=r/\r<rows.length then x else rows.getD i []:=by
 rw[List.getD_eq_getElem?_getD,List.getD_eq_getElem?_getD,List.getElem?_set];by_cases h:r=i
 ·subst h;rw[if_pos rfl];by_cases h2:r<rows.length;·rw[if_pos h2,if_pos ⟨rfl,h2⟩];rfl
  ·rw[if_neg h2,if_neg (by omega),List.getElem?_eq_none (by omega)]
 ·rw[if_neg h,if_neg (by omega)]
def Iv.step{s0 s s':St}{b:Bool}{f:Fl}{o:Od}(v:Iv s0 b f s)(h:GS s)(ho:okO o=true)(e:aW s o=some s'):Iv s0 b (flS s o f) s':=by
 obtain⟨wd,rows,r,c⟩:=s;have hr:=h.r;have hl:=(h.l _ (gG hr)).1;obtain⟨v1,v2,v3,v4,v5⟩:=v;cases o with
 |say x=>
  simp only[okO,Bool.and_eq_true,decide_eq_true_eq]at ho;simp only[aW]at e;split at e;·cases e
  ·cases e;refine⟨v1,by rw[<- v2];simp,λi j hi hj q=>?_,λi j q=>?_,?_⟩
   ·obtain⟨q1,q2⟩:=EJ q;dsimp only at q1;show((rows.set r _).getD i []).getD j 0=und ((s0.2.1.getD i []).getD j 0) (wb (f.wp i) (j+1));rw[<- v3 i j hi hj q2,dW];split
    ·rename_i z;rw[z.1];generalize rows.getD r []=row at *;rw[List.getD_eq_getElem?_getD,List.getD_eq_getElem?_getD]
     congr 1
     by_cases a:j<c;·rw[List.append_assoc,List.getElem?_append_left (by rw[List.length_take];omega),List.getElem?_take,if_pos a]
     ·rw[List.getElem?_append_right (by rw[List.length_append,List.length_take];omega),List.getElem?_drop]
      congr 1
      rw[List.length_append,List.length_take];omega
    ·rfl
   ·have old:f.sd i j=true\/f.wp i j=true->f.gn i j=true\/(0<j/\kW f.sd r c x.length i (j - 1)=true)\/(b=true/\i=s0.2.2.1/\j=s0.2.2.2):=λz=>(v4 i j z).imp id (λz=>z.imp (λz=>⟨z.1,iR z.2⟩) id);rcases q with q|q
    ·rcases pb q with⟨rfl,a1,a2⟩|q
     ·by_cases y:j=c;·subst y;exact v5.imp id (λz=>z.imp (λz=>⟨z.1,iR z.2⟩) id)
      ·exact .inr (.inl ⟨by dsimp only at a1;omega,gh (by dsimp only at a1⊢;omega) (by dsimp only at a2⊢;omega)⟩)
     ·exact old (.inl q)
    ·exact old (.inr q)
   ·exact .inr (.inl ⟨by dsimp only;omega,gh (by dsimp only;omega) (by dsimp only;omega)⟩)
 |go n k=>
  simp only[aW]at e;split at e;·cases e
  ·cases e;exact⟨v1,v2,v3,λi j q=>(v4 i j q).imp iR id,.inl (gh (Nat.le_refl _) (by dsimp only;omega))⟩
 |wipe=>
  cases e;refine⟨v1,by rw[<- v2];simp,λi j hi hj q=>?_,λi j q=>?_,v5⟩
  ·show((rows.set r _).getD i []).getD j 0=und _ (wb (kW f.wp r c 1 i) (j+1));by_cases y:i=r
   ·subst y;rw[dW,if_pos ⟨rfl,hr⟩];have v:=v3 i j hi hj q;generalize rows.getD i []=row at *;by_cases a:j<c;·rw[yP (by omega),<- v,List.getD_eq_getElem?_getD,List.getD_eq_getElem?_getD,List.getElem?_append_left (by rw[List.length_take];omega),List.getElem?_take,if_pos a]
    ·rw[Ae (gh (Nat.le_refl c) (by omega)) (by omega),List.getD_eq_getElem?_getD,List.getElem?_append_right (by rw[List.length_take];omega),List.getElem?_replicate,if_pos (by rw[List.length_take];omega)];rfl
   ·rw[AS y,dW,if_neg (by omega)];exact v3 i j hi hj q
  ·rcases q with q|q;·exact v4 i j (.inl q)
   ·rcases pb q with⟨rfl,a1,a2⟩|q
    ·have:j=c:=by dsimp only at a1 a2;omega
     subst this;exact v5
    ·exact v4 i j (.inr q)
theorem Iv.run(m wd:Nat):∀(os:List Od){s0 s s':St}{b:Bool}{f:Fl},Iv s0 b f s->GS s->(∀o∈os,okO o=true)->rn (some s) os=some s'->
  ∃f',Iv s0 b f' s'/\yb m wd f'<=yb m wd f+(os.map bb).sum/\(∀i j,f.wp i j=true->f'.wp i j=true)/\
   (∀r0 c0,(∀a q t,os=a++.wipe::q->rn (some s) a=some t->¬ (t.2.2.1=r0/\t.2.2.2<c0))->(∀w,w<c0->f.wp r0 w=false)->∀w,w<c0->f'.wp r0 w=false)
 | [],s0,s,s',b,f,v,_,_,e=>⟨f,by cases e;exact v,by simp,λ_ _ h=>h,λ_ _ _ h=>h⟩
 |o::os,s0,s,s',b,f,v,h,ho,e=>by
  have h1:=ho o (List.mem_cons_self ..);rw[nJ]at e;cases z:aW s o with
  |none=>rw[show((some s).bind λs=>aW s o)=none from z,dG]at e;cases e
  |some t=>
   rw[show((some s).bind λs=>aW s o)=some t from z]at e;obtain⟨f',v',c',w',l'⟩:=Iv.run m wd os (v.step h h1 z) (gC h h1 z) (λo ho'=>ho o (List.mem_cons_of_mem _ ho')) e;have c1:=qD m wd s o f;refine⟨f',v',by rw[List.map_cons,List.sum_cons];omega,λi j q=>w' i j ?_,λr0 c0 H lo=>l' r0 c0 (λa q u e1 e2=>H (o::a) q u (by rw[e1];rfl) (by rw[nJ,show((some s).bind λs=>aW s o)=some t from z];exact e2)) λw hw=>?_⟩
   ·cases o with
    |wipe=>exact iR q
    |_=>exact q
   ·cases o with
    |wipe=>
     cases y:(flS s .wipe f).wp r0 w with
     |false=>rfl
     |true=>
      rcases pb y with y|y;·exact absurd ⟨y.1.symm,by omega⟩ (H [] os s rfl rfl)
      ·rw[lo w hw]at y;cases y
    |_=>exact lo w hw
noncomputable def flN:Fl:=⟨λ_ _=>false,λ_ _=>false,λ_ _=>false⟩
def wb0(j:Nat):wb (λ_=>false) j=false:=by unfold wb;rw[List.any_eq_false];intro _ _ h;cases h
def iv0(s:St):Iv s true flN s:=⟨rfl,rfl,λi j _ _ _=>by show _=und _ (wb (λ_=>false) _);rw[wb0];rfl,λi j q=>(by rcases q with q|q <;> cases q),.inr (.inr ⟨rfl,rfl,rfl⟩)⟩
def M8(m wd:Nat):yb m wd flN=0:=by
 have c0:cnt (λ_=>false) 0 wd=0:=by simp[cnt]
 have:∀i,qT wd flN i=0:=λi=>by show cnt (λ_=>false) 0 wd+2 * cnt (λ_=>false) 0 wd+cnt (λ_=>false) 0 wd=0;omega
 unfold yb;induction m with
 |zero=>rfl
 |succ m ih=>rw[List.range_succ,List.map_append,List.sum_append,ih];simp[this]
structure Bh(r0 c0:Nat)(R:List (List Nat))(s:St):Prop where
 r:s.2.2.1=r0
 c:c0<=s.2.2.2
 o:∀i,i≠r0->s.2.1.getD i []=R.getD i []
 l:∀j,j<c0->(s.2.1.getD r0 []).getD j 0=(R.getD r0 []).getD j 0
noncomputable def Hi:Od->Bool
 |.go _ _=>true
 |_=>false
def Bh.step{r0 c0:Nat}{R:List (List Nat)}{s s':St}{o:Od}(v:Bh r0 c0 R s)(h:GS s)(hg:Hi o=false)(e:aW s o=some s'):Bh r0 c0 R s':=by
 obtain⟨wd,rows,r,c⟩:=s;have hr:=h.r;have hl:=(h.l _ (gG hr)).1;have hc:c<=wd:=h.c;obtain⟨v1,v2,v3,v4⟩:=v;dsimp only at v1 v2 v3 v4;subst v1;cases o with
 |go n k=>cases hg
 |say x=>
  simp only[aW]at e;split at e;·cases e
  ·cases e;refine⟨rfl,by dsimp only;omega,λi hi=>by rw[<- v3 i hi];show(rows.set r _).getD i []=_;rw[dW,if_neg (by omega)],λj hj=>?_⟩;rw[<- v4 j hj];rw[dW,if_pos ⟨rfl,hr⟩];generalize rows.getD r []=row at *;rw[List.getD_eq_getElem?_getD,List.getD_eq_getElem?_getD,List.append_assoc,List.getElem?_append_left (by rw[List.length_take];omega),List.getElem?_take,if_pos (by omega)]
 |wipe=>cases e;refine⟨rfl,v2,λi hi=>by rw[<- v3 i hi];show(rows.set r _).getD i []=_;rw[dW,if_neg (by omega)],λj hj=>?_⟩;rw[<- v4 j hj];rw[dW,if_pos ⟨rfl,hr⟩];generalize rows.getD r []=row at *;rw[List.getD_eq_getElem?_getD,List.getD_eq_getElem?_getD,List.getElem?_append_left (by rw[List.length_take];omega),List.getElem?_take,if_pos (by omega)]
theorem wy{r0 c0:Nat}{R:List (List Nat)}:∀(os:List Od){s t:St},Bh r0 c0 R s->GS s->(∀o∈os,okO o=true)->rn (some s) os=some t->
  Bh r0 c0 R t\/∃p n k q s1 s2,os=p++.go n k::q/\GS s1/\Bh r0 c0 R s1/\aW s1 (.go n k)=some s2/\rn (some s2) q=some t/\s1.1=s.1/\s1.2.1.length=s.2.1.length/\okO (.go n k)=true
 | [],s,t,v,_,_,e=>by cases e;exact .inl v
 |o::os,s,t,v,h,ho,e=>by
  have h1:=ho o (List.mem_cons_self ..);rw[nJ]at e;cases z:aW s o with
  |none=>rw[show((some s).bind λs=>aW s o)=none from z,dG]at e;cases e
  |some u=>
   rw[show((some s).bind λs=>aW s o)=some u from z]at e;cases g:Hi o with
   |true=>
    cases o with
    |go n k=>exact .inr ⟨[],n,k,os,s,u,rfl,h,v,z,e,rfl,rfl,h1⟩
    |say x=>cases g
    |wipe=>cases g
   |false=>
    rcases wy os (v.step h g z) (gC h h1 z) (λo ho'=>ho o (List.mem_cons_of_mem _ ho')) e with w|⟨p,n,k,q,s1,s2,e1,e2,e3,e4,e5,e6,e7,e8⟩;·exact .inl w
    ·refine .inr ⟨o::p,n,k,q,s1,s2,by rw[e1];rfl,e2,e3,e4,e5,?_,?_,e8⟩;·have:=(Iv.step (iv0 s) h h1 z).wd;rw[e6];exact this
     ·have:=(Iv.step (iv0 s) h h1 z).m;rw[e7];exact this
section
variable{s s0 s':St}{g:List (List Nat)}{f:Fl}
def Dz(i:Nat)(hi:i<s.2.1.length)(h:GS s)(p1:∀j,j<s.1->f.sd i j=false->(g.getD i []).getD j 0=und ((s.2.1.getD i []).getD j 0) (wb (f.wp i) (j+1)))(p2:∀j,f.sd i j=true\/f.wp i j=true->f.gn i j=true\/(0<j/\f.sd i (j - 1)=true)):
  (dz i (s.2.1.getD i []) (g.getD i [])).1<=qT s.1 f i:=by
 have e:=(bT h hi).1;have:=Dc i (λj hj q=>(p1 j (by omega) q).symm) p2;rw[e]at this;exact this
theorem uA{a b:Nat->Nat}:∀m,(∀i,i<m->a i<=b i)->((List.range m).map a).sum<=((List.range m).map b).sum
 | 0,_=>Nat.le_refl _
 |m+1,h=>by have ih:=uA m λi hi=>h i (by omega);have:=h m (by omega);rw[List.range_succ,List.map_append,List.map_append,List.sum_append,List.sum_append];simp only[List.map_cons,List.map_nil,List.sum_cons];omega
def uO(h:GS s)(hg:GL s g):((cK s g).map bb).sum=(sB s.2.2.1 (s.2.1.getD s.2.2.1 []) (g.getD s.2.2.1 []) s.2.2.2).1+((List.range s.2.1.length).map λi=>if i=s.2.2.1 then 0 else (dz i (s.2.1.getD i []) (g.getD i [])).1).sum:=by
 have hm:=h.m;unfold cK;rw[List.map_append,List.sum_append,sQ,<- List.range_eq_range'];have r1:=yv (n:=s.2.2.1) (by have:=h.r;omega) (by rw[(bT h h.r).1];exact h.w2) (by rw[(bT h h.r).1,(dH hg h.r).1]) (dH hg h.r).2 (by rw[(bT h h.r).1];exact h.c);have r3:((li s g).map bb).sum=(sB s.2.2.1 (s.2.1.getD s.2.2.1 []) (g.getD s.2.2.1 []) s.2.2.2).1:=r1.2.symm
 congr 2
 refine List.map_congr_left λi hi=>?_;have hi:=List.mem_range.1 hi;unfold vN;split;·rfl
 ·exact(pM (by omega) (by rw[(bT h hi).1];exact h.w2) (by rw[(bT h hi).1,(dH hg hi).1]) (dH hg hi).2).2.symm
def zx(h:GS s)(hg:GL s g){os:List Od}(ho:∀o∈os,okO o=true)(e:rn (some s) os=some s')(e2:s'.2.1=g):dq s g<=(os.map bb).sum:=by
 have a1:=(iC (cK s g) []).2;have a2:=uO h hg;have so:=tB (λi=>(dz i (s.2.1.getD i []) (g.getD i [])).1) s.2.2.1 s.2.1.length;rw[if_pos h.r]at so;simp only[List.map_nil,List.sum_nil]at a1;unfold dq shO;have hold:=(bT h h.r).1;by_cases H:∃a q t,os=a++.wipe::q/\rn (some s) a=some t/\t.2.2.1=s.2.2.1/\t.2.2.2<s.2.2.2
 ·obtain⟨a,q,t,rfl,ea,t1,t2⟩:=H;have hoa:∀o∈a,okO o=true:=λo h=>ho o (List.mem_append_left _ h);have hoq:∀o∈q,okO o=true:=λo h=>ho o (List.mem_append_right _ (List.mem_cons_of_mem _ h));rcases wy a ⟨rfl,Nat.le_refl _,λ_ _=>rfl,λ_ _=>rfl⟩ h hoa ea with z|⟨p,n,k,a2',s1,s2,rfl,g1,b1,st,ra,w1,m1,okg⟩;·have:=z.c;omega
  ·have hoa2:∀o∈a2',okO o=true:=λo h=>hoa o (List.mem_append_right _ (List.mem_cons_of_mem _ h));have g2:=gC g1 okg st;have v1:Iv s1 false (flS s1 (.go n k) flN) s2:=by
    simp only[aW]at st;split at st;·cases st
    ·cases st;exact⟨rfl,rfl,λi j _ _ _=>by show _=und _ (wb (λ_=>false) _);rw[wb0];rfl,λi j q=>(by rcases q with q|q <;> cases q),.inl (gh (Nat.le_refl _) (by dsimp only;omega))⟩
   have c1:=qD s.2.1.length s.1 s1 (.go n k) flN;rw[M8]at c1;obtain⟨f2,v2,c2,_,_⟩:=Iv.run s.2.1.length s.1 a2' v1 g2 hoa2 ra;have gt:=Fq _ g2 hoa2 ra;rw[fh,ea,nJ]at e;have st2:aW t .wipe=some (t.1,t.2.1.set t.2.2.1 ((t.2.1.getD t.2.2.1 []).take t.2.2.2++List.replicate (t.1 - t.2.2.2) 32),t.2.2.1,t.2.2.2):=rfl;have v3:=v2.step gt rfl st2;have c3:=qD s.2.1.length s.1 t .wipe f2;obtain⟨f4,v4,c4,w4,_⟩:=Iv.run s.2.1.length s.1 q v3 (gC gt rfl st2) hoq e;have low:f4.wp s.2.2.1 t.2.2.2=true:=w4 _ _ (by rw[<- t1];exact gh (Nat.le_refl _) (by omega));have tot:yb s.2.1.length s.1 f4<=((p++.go n k::a2'++.wipe::q).map bb).sum:=by simp only[List.map_append,List.map_cons,List.sum_append,List.sum_cons];omega
   have each:∀i,i<s.2.1.length->(dz i (s.2.1.getD i []) (g.getD i [])).1<=qT s.1 f4 i:=λi hi=>by
    refine Dz i hi h (λj hj q=>?_) λj q=>?_
    ·have:=v4.row i j (by rw[m1];exact hi) (by rw[w1];exact hj) q;rw[e2]at this;rw[this];by_cases y:i=s.2.2.1
     ·subst y;by_cases x:j<s.2.2.2;·rw[b1.l j x]
      ·rw[Ae low (by omega)];rfl
     ·rw[b1.o i y]
    ·rcases v4.at' i j q with z|z|z;·exact .inl z
     ·exact .inr z
     ·cases z.1
   have sm:=uA s.2.1.length each;have mn:(sB s.2.2.1 (s.2.1.getD s.2.2.1 []) (g.getD s.2.2.1 []) s.2.2.2).1<=(dz s.2.2.1 (s.2.1.getD s.2.2.1 []) (g.getD s.2.2.1 [])).1:=iH _ _ _ (by simp);unfold yb at tot;omega
 ·obtain⟨f',v',c',_,l'⟩:=Iv.run s.2.1.length s.1 os (iv0 s) h ho e;have low:=l' s.2.2.1 s.2.2.2 (λa q t e1 e3 e4=>H ⟨a,q,t,e1,e3,e4.1,e4.2⟩) λ_ _=>rfl;rw[M8]at c';have row:∀i j,i<s.2.1.length->j<s.1->f'.sd i j=false->(g.getD i []).getD j 0=und ((s.2.1.getD i []).getD j 0) (wb (f'.wp i) (j+1)):=λi j hi hj q=>by have:=v'.row i j hi hj q;rw[e2]at this;exact this
  have pm:=ym s.2.2.1 (by rw[hold];exact h.c) (λj hj q=>(row _ j h.r (by omega) q).symm) (λj q=>(v'.at' _ j q).imp id (λz=>z.imp id λz=>z.2.2)) low;rw[hold]at pm;have mn:(sB s.2.2.1 (s.2.1.getD s.2.2.1 []) (g.getD s.2.2.1 []) s.2.2.2).1<=(dk s.2.2.1 (s.2.1.getD s.2.2.1 []) (g.getD s.2.2.1 []) s.2.2.2).1:=iH _ _ _ (by simp);have each:∀i,i<s.2.1.length->(if i=s.2.2.1 then 0 else (dz i (s.2.1.getD i []) (g.getD i [])).1)<=(if i=s.2.2.1 then 0 else qT s.1 f' i):=λi hi=>by
   by_cases y:i=s.2.2.1;·rw[if_pos y,if_pos y];exact Nat.le_refl _
   ·rw[if_neg y,if_neg y];refine Dz i hi h (λj hj q=>row i j hi hj q) λj q=>?_;rcases v'.at' i j q with z|z|z;·exact .inl z
    ·exact .inr z
    ·exact absurd z.2.1 y
  have sm:=uA s.2.1.length each;have so2:=tB (qT s.1 f') s.2.2.1 s.2.1.length;rw[if_pos h.r]at so2;unfold yb at c';have pm':(dk s.2.2.1 (s.2.1.getD s.2.2.1 []) (g.getD s.2.2.1 []) s.2.2.2).1<=qT s.1 f' s.2.2.1:=pm;omega
end
noncomputable def ce(row:List Nat)(nw:Nat->Nat)(b j:Nat)(w:Bool)(i:Nat):Nat:=if i<b then row.getD i 0 else if i<j then nw i else und (row.getD i 0) w
noncomputable def tg(row:List Nat)(nw:Nat->Nat)(b j:Nat)(w:Bool):List Nat:=(List.range row.length).map (ce row nw b j w)
def lj(row:List Nat)(nw:Nat->Nat)(b j:Nat)(w:Bool):(tg row nw b j w).length=row.length:=by unfold tg;rw[List.length_map,List.length_range]
section
variable{n b:Nat}{row x:List Nat}{nw:Nat->Nat}{h0 w:Bool}
def ce1(h:i<b):ce row nw b j w i=row.getD i 0:=if_pos h
def ce2(h1:b<=i)(h2:i<j):ce row nw b j w i=nw i:=by unfold ce;rw[if_neg (by omega),if_pos h2]
def ce3(hb:b<=j)(h:j<=i):ce row nw b j w i=und (row.getD i 0) w:=by unfold ce;rw[if_neg (by omega),if_neg (by omega)]
def lO(h:i<row.length):(tg row nw b j w)[i]?=some (ce row nw b j w i):=by unfold tg;rw[List.getElem?_map,List.getElem?_range h];rfl
def wY(hl:x.length=row.length)(h:∀i,i<row.length->x[i]?=some (ce row nw b j w i)):x=tg row nw b j w:=by
 refine List.ext_getElem? λi=>?_;by_cases hi:i<row.length;·rw[h i hi,lO hi]
 ·rw[List.getElem?_eq_none (by omega),List.getElem?_eq_none (by rw[lj];omega)]
def BV(row:List Nat)(nw:Nat->Nat)(b:Nat):row=tg row nw b b false:=by
 refine wY rfl λi hi=>?_;have:row[i]?=some (row.getD i 0):=gA hi;rw[this];by_cases z:i<b;·rw[ce1 z]
 ·rw[ce3 (Nat.le_refl _) (by omega)];rfl
def Fb(hb:b<=j)(hj:j<=row.length):(tg row nw b j false).take j++List.replicate (row.length - j) 32=tg row nw b j true:=by
 have l:=lj row nw b j false;refine wY (by rw[List.length_append,List.length_take,List.length_replicate];omega) λi hi=>?_;by_cases z:i<j
 ·rw[List.getElem?_append_left (by rw[List.length_take];omega),List.getElem?_take,if_pos z,lO hi];by_cases y:i<b;·rw[ce1 y,ce1 y]
  ·rw[ce2 (by omega) z,ce2 (by omega) z]
 ·rw[List.getElem?_append_right (by rw[List.length_take];omega),List.getElem?_replicate,if_pos (by rw[List.length_take];omega),ce3 hb (by omega)];rfl
def Jh(hb:b<=j)(hj:j<row.length):(tg row nw b j w).take j++[nw j]++(tg row nw b j w).drop (j+1)=tg row nw b (j+1) w:=by
 have l:=lj row nw b j w;refine wY (by rw[List.length_append,List.length_append,List.length_take,List.length_drop,List.length_cons,List.length_nil];omega) λi hi=>?_;by_cases z:i<j
 ·rw[List.append_assoc,List.getElem?_append_left (by rw[List.length_take];omega),List.getElem?_take,if_pos z,lO hi];by_cases y:i<b;·rw[ce1 y,ce1 y]
  ·rw[ce2 (by omega) z,ce2 (by omega) (by omega)]
 ·by_cases y:i=j;·subst y;rw[List.append_assoc,List.getElem?_append_right (by rw[List.length_take];omega),List.length_take,show i - min i (tg row nw b i w).length=0 by omega,ce2 hb (by omega)];rfl
  ·rw[List.getElem?_append_right (by rw[List.length_append,List.length_take,List.length_cons,List.length_nil];omega),List.getElem?_drop,List.length_append,List.length_take,List.length_cons,List.length_nil,show j+1+(i - (min j (tg row nw b j w).length+(0+1)))=i by omega,lO hi,ce3 hb (by omega),ce3 (by omega) (by omega)]
def Cw(hb:b<=j)(hj:j<row.length)(e:und (row.getD j 0) w=nw j):tg row nw b j w=tg row nw b (j+1) w:=by
 refine wY (lj ..) λi hi=>?_;rw[lO hi];by_cases z:i<b;·rw[ce1 z,ce1 z]
 ·by_cases y:i<j;·rw[ce2 (by omega) y,ce2 (by omega) (by omega)]
  ·by_cases q:i=j;·subst q;rw[ce3 hb (Nat.le_refl _),ce2 hb (by omega),e]
   ·rw[ce3 hb (by omega),ce3 (by omega) (by omega)]
noncomputable def Rch(n:Nat)(row:List Nat)(nw:Nat->Nat)(b:Nat)(h0:Bool)(j:Nat)(k:Ky)(p:Pl):Prop:=∀(R:List (List Nat))(r c:Nat),n<R.length->R.getD n []=row->(h0=true->r=n/\c=b)->
 ∃r' c',rn (some (row.length,R,r,c)) p.2=some (row.length,R.set n (tg row nw b j k.2),r',c')/\(k.1=true->r'=n/\c'=j)
def mj{R:List (List Nat)}{x:List Nat}(h:n<R.length):(R.set n x).getD n []=x:=by rw[dW,if_pos ⟨rfl,h⟩]
def Jv{R:List (List Nat)}(h:n<R.length):R.set n (R.getD n [])=R:=by rw[List.getD_eq_getElem?_getD,List.getElem?_eq_getElem h];exact List.set_getElem_self h
def Rch.start:Rch n row nw b h0 b (h0,false) (0,[]):=λR r c hn hr hp=>⟨r,c,by show some _=_;rw[show(h0,false).2=false from rfl,<- BV,<- hr,Jv hn],hp⟩
def zt(a:Option St)(os:List Od)(o:Od):rn a (os++[o])=(rn a os).bind λs=>aW s o:=by rw[fh];rfl
def Rch.go{p:Pl}(h:Rch n row nw b h0 j (false,w) p)(hj:j<=row.length):Rch n row nw b h0 j (true,w) (kC p (.go n j)):=λR r c hn hr hp=>by obtain⟨r',c',e,_⟩:=h R r c hn hr hp;refine⟨n,j,?_,λ_=>⟨rfl,rfl⟩⟩;show rn _ (p.2++[.go n j])=_;rw[zt,e];exact if_neg (by simp only[List.length_set];omega)
def Rch.wipe{p:Pl}(h:Rch n row nw b h0 j (true,false) p)(hb:b<=j)(hj:j<=row.length):Rch n row nw b h0 j (true,true) (kC p .wipe):=λR r c hn hr hp=>by obtain⟨r',c',e,q⟩:=h R r c hn hr hp;obtain⟨rfl,rfl⟩:=q rfl;refine⟨r',c',?_,λ_=>⟨rfl,rfl⟩⟩;show rn _ (p.2++[.wipe])=_;rw[zt,e];show some (row.length,(R.set r' (tg row nw b c' false)).set r' (((R.set r' (tg row nw b c' false)).getD r' []).take c'++List.replicate (row.length - c') 32),r',c')=_;rw[mj hn,Fb hb hj,List.set_set]
def Rch.say{p:Pl}(h:Rch n row nw b h0 j (true,w) p)(hb:b<=j)(hj:j<row.length):Rch n row nw b h0 (j+1) (true,w) (kC p (.say [nw j])):=λR r c hn hr hp=>by obtain⟨r',c',e,q⟩:=h R r c hn hr hp;obtain⟨rfl,rfl⟩:=q rfl;refine⟨r',c'+1,?_,λ_=>⟨rfl,rfl⟩⟩;show rn _ (p.2++[.say [nw c']])=_;rw[zt,e];show(if row.length<c'+1 then none else some (row.length,(R.set r' (tg row nw b c' w)).set r' (((R.set r' (tg row nw b c' w)).getD r' []).take c'++[nw c']++((R.set r' (tg row nw b c' w)).getD r' []).drop (c'+1)),r',c'+1))=_;rw[if_neg (by omega),mj hn,Jh hb hj,List.set_set]
def Rch.leave{p:Pl}{a:Bool}(h:Rch n row nw b h0 j (a,w) p)(hb:b<=j)(hj:j<row.length)(e:und (row.getD j 0) w=nw j):Rch n row nw b h0 (j+1) (false,w) p:=λR r c hn hr hp=>by obtain⟨r',c',e1,_⟩:=h R r c hn hr hp;exact⟨r',c',by rw[e1];show some (_,R.set n (tg row nw b j w),_,_)=_;rw[Cw hb hj e],λz=>by cases z⟩
def Ag{P:Ky->Pl->Prop}{m:Mp}{a c:Ky}{o:Od}(h:All P m)(ho:∀p,P a p->P c (kC p o)):All P (move m a c o):=by
 unfold move;split;·rename_i q e;exact h.offer (ho q (h.at e))
 ·exact h
theorem Rch.cols{new:List Nat}(hl:∀i,i<old.length->old.getD i 0=row.getD i 0)(hn:∀i,i<old.length->new.getD i 0=nw i)(hw:old.length<=row.length):∀k,b+k<=old.length->All (Rch n row nw b h0 (b+k)) ((List.range' b k).foldl (xO n old new) (m0 (h0,false)))
 | 0,_=>λz hz=>by rw[List.mem_singleton.1 hz];exact Rch.start
 |k+1,h=>by
  have ih:=Rch.cols hl hn hw k (by omega);rw[List.range'_1_concat,List.foldl_append,List.foldl_cons,List.foldl_nil];show All (Rch n row nw b h0 (b+k+1)) _;have mv:All (Rch n row nw b h0 (b+k)) (gM ((List.range' b k).foldl (xO n old new) (m0 (h0,false))) n (b+k)):=
   Ag (Ag (Ag ih λp hp=>hp.go (by omega)) λp hp=>hp.wipe (by omega) (by omega)) λp hp=>hp.go (by omega);refine qN mv (λq p hp e=>?_) λq p hp e=>?_;·rw[hn _ (by omega)];obtain⟨a,w⟩:=q;cases e;exact Rch.say hp (by omega) (by omega)
  ·rw[hn _ (by omega),hl _ (by omega)]at e;exact Rch.leave hp (by omega) (by omega) e
end
def mz{m:Mp}{ks:List Ky}(h:fH m ks≠[]):∃k∈ks,m.lookup k=some (hV m ks):=by obtain⟨k,hk,e⟩:=List.mem_filterMap.1 (ss h);exact⟨k,hk,e⟩
section
variable{n c:Nat}{new:List Nat}
def wm(hl:new.length=old.length)(hw:old.length<=40):∀(R:List (List Nat))(r c:Nat),n<R.length->R.getD n []=old->∃r' c',rn (some (old.length,R,r,c)) (dz n old new).2=some (old.length,R.set n new,r',c'):=by
 have a:=Rch.cols (n:=n) (row:=old) (nw:=λi=>new.getD i 0) (b:=0) (h0:=false) (λ_ _=>rfl) (λ_ _=>rfl) (Nat.le_refl _) old.length (by omega);obtain⟨k,_,e⟩:=mz (pA gd0 n hl (Nat.zero_le _) (by omega)).2.all;unfold gU at e;rw[Nat.sub_zero]at e;have p:=a.at e;intro R r c hn hr;obtain⟨r',c',e1,_⟩:=p R r c hn hr (λz=>by cases z);refine⟨r',c',?_⟩;rw[show(dz n old new).2=(hV ((List.range' 0 old.length).foldl (xO n old new) (m0 (false,false))) allK).2 by unfold dz gU;rw[Nat.sub_zero],e1];have:new=tg old (λi=>new.getD i 0) 0 (0+old.length) k.2:=wY hl λi hi=>by rw[ce2 (Nat.zero_le _) (by omega)];exact gA (by omega)
 rw[<- this]
def A5(hl:new.length=old.length)(hw:old.length<=40)(hc:c<=old.length)(R:List (List Nat))(hn:n<R.length)(hr:R.getD n []=old):∃r' c',rn (some (old.length,R,n,c)) (dk n old new c).2=some (old.length,R.set n new,r',c'):=by
 have a:=Rch.cols (n:=n) (row:=old) (nw:=λi=>new.getD i 0) (b:=c) (h0:=true) (λ_ _=>rfl) (λ_ _=>rfl) (Nat.le_refl _) (old.length - c) (by omega);obtain⟨k,_,e⟩:=mz (pA gd1 n hl hc (by omega)).2.all;obtain⟨r1,c1,e1,_⟩:=(a.at e) R n c hn hr (λ_=>⟨rfl,rfl⟩);have l1:(old.take c).length=c:=by rw[List.length_take];omega
 have l2:(new.take c).length=c:=by rw[List.length_take];omega
 have g1:∀i,i<c->(tg old (λi=>new.getD i 0) c (c+(old.length - c)) k.2).getD i 0=old.getD i 0:=λi hi=>by rw[List.getD_eq_getElem?_getD,lO (by omega),ce1 hi];rfl
 have b:=Rch.cols (n:=n) (row:=tg old (λi=>new.getD i 0) c (c+(old.length - c)) k.2) (b:=0) (h0:=false) (old:=old.take c) (new:=new.take c) (λi hi=>by rw[iU (by omega),g1 i (by omega)]) (λi hi=>iU (by omega)) (by rw[lj];omega) c (by omega);obtain⟨k2,hk2,e2⟩:=mz (pA gd0 n (old:=old.take c) (new:=new.take c) (by omega) (Nat.zero_le _) (by omega)).2.two;have e3:=e2;unfold gU at e3;rw[Nat.sub_zero,l1]at e3;obtain⟨r2,c2,e4,_⟩:=(b.at e3) (R.set n (tg old (λi=>new.getD i 0) c (c+(old.length - c)) k.2)) r1 c1 (by rw[List.length_set];exact hn) (mj hn) (λz=>by cases z);have kf:k2.2=false:=by
  rcases List.mem_cons.1 hk2 with z|z;·rw[z]
  ·rw[List.mem_singleton.1 z]
 refine⟨r2,c2,?_⟩;show rn _ ((gQ n old new c).2++(kR n old new c).2)=_;rw[fh];have e1':rn (some (old.length,R,n,c)) (gQ n old new c).2=_:=e1;rw[e1'];rw[lj,List.set_set,kf]at e4;rw[show(kR n old new c).2=(hV ((List.range' 0 c).foldl (xO n (old.take c) (new.take c)) (m0 (false,false))) twoK).2 by unfold kR gU;rw[Nat.sub_zero,l1],e4];have fin:new=tg (tg old (λi=>new.getD i 0) c (c+(old.length - c)) k.2) (λi=>new.getD i 0) 0 (0+c) false:=by
  refine wY (by rw[lj];exact hl) λi hi=>?_;rw[lj]at hi;rw[gA (show i<new.length by omega)];by_cases z:i<c;·rw[ce2 (Nat.zero_le _) (by omega)]
  ·rw[ce3 (Nat.zero_le _) (by omega),List.getD_eq_getElem?_getD (l:=tg _ _ _ _ _),lO hi,ce2 (by omega) (by omega)];rfl
 rw[<- fin]
def Gh(hl:new.length=old.length)(hw:old.length<=40)(hc:c<=old.length)(R:List (List Nat))(hn:n<R.length)(hr:R.getD n []=old):∃r' c',rn (some (old.length,R,n,c)) (sB n old new c).2=some (old.length,R.set n new,r',c'):=by
 rcases List.mem_cons.1 (iT [dz n old new] (dk n old new c))with z|z;·unfold sB;rw[z];exact A5 hl hw hc R hn hr
 ·unfold sB;rw[List.mem_singleton.1 z];exact wm hl hw R n c hn hr
end
section
variable{s:St}{g:List (List Nat)}
theorem vU(h:GS s)(hg:GL s g):∀(k j:Nat)(R:List (List Nat))(r c:Nat),j+k<=s.2.1.length->R.length=s.2.1.length->(∀i,j<=i->i≠s.2.2.1->R.getD i []=s.2.1.getD i [])->
  ∃R' r' c',rn (some (s.1,R,r,c)) ((List.range' j k).flatMap (vN s g))=some (s.1,R',r',c')/\R'.length=s.2.1.length/\∀i,R'.getD i []=if j<=i/\i<j+k/\i≠s.2.2.1 then g.getD i []else R.getD i []
 | 0,j,R,r,c,_,hR,_=>⟨R,r,c,rfl,hR,λi=>by rw[if_neg (by omega)]⟩
 |k+1,j,R,r,c,hj,hR,hs=>by
  have step:∃R1 r1 c1,rn (some (s.1,R,r,c)) (vN s g j)=some (s.1,R1,r1,c1)/\R1.length=s.2.1.length/\∀i,R1.getD i []=if i=j/\i≠s.2.2.1 then g.getD i []else R.getD i []:=by
   unfold vN;by_cases z:j=s.2.2.1;·rw[if_pos z];exact⟨R,r,c,rfl,hR,λi=>by rw[if_neg (by omega)]⟩
   ·rw[if_neg z];have l1:=(bT h (show j<s.2.1.length by omega)).1;have l2:=(dH hg (show j<s.2.1.length by omega)).1;obtain⟨r1,c1,e⟩:=wm (new:=g.getD j []) (by omega) (by rw[l1];exact h.w2) R r c (by omega) (hs j (Nat.le_refl _) z);rw[l1]at e;refine⟨_,r1,c1,e,by rw[List.length_set];exact hR,λi=>?_⟩;rw[dW];by_cases y:i=j;·subst y;rw[if_pos ⟨rfl,by omega⟩,if_pos ⟨rfl,z⟩]
    ·rw[if_neg (by omega),if_neg (by omega)]
  obtain⟨R1,r1,c1,e1,l1,g1⟩:=step;obtain⟨R2,r2,c2,e2,l2,g2⟩:=vU h hg k (j+1) R1 r1 c1 (by omega) l1 (λi hi hn=>by rw[g1,if_neg (by omega)];exact hs i (by omega) hn);refine⟨R2,r2,c2,?_,l2,λi=>?_⟩;·rw[List.range'_succ,List.flatMap_cons,fh,e1];exact e2
  ·rw[g2,g1];by_cases z:j+1<=i/\i<j+1+k/\i≠s.2.2.1;·rw[if_pos z,if_pos (by omega)]
   ·rw[if_neg z];by_cases y:i=j/\i≠s.2.2.1;·rw[if_pos y,if_pos (by omega)]
    ·rw[if_neg y,if_neg (by omega)]
def zM(h:GS s)(hg:GL s g):∃r c,rn (some s) (cK s g)=some (s.1,g,r,c):=by
 have l1:=(bT h h.r).1;have l2:=(dH hg h.r).1;obtain⟨r1,c1,e1⟩:=Gh (new:=g.getD s.2.2.1 []) (by omega) (by rw[l1];exact h.w2) (by rw[l1];exact h.c) s.2.1 h.r rfl;rw[l1]at e1;obtain⟨R2,r2,c2,e2,l3,g2⟩:=vU h hg s.2.1.length 0 (s.2.1.set s.2.2.1 (g.getD s.2.2.1 [])) r1 c1 (by omega) (by rw[List.length_set]) (λi _ hn=>by rw[dW,if_neg (by omega)]);refine⟨r2,c2,?_⟩;unfold cK li;have e1':=e1;rw[fh,e1',e2];have:R2=g:=by
  refine List.ext_getElem? λi=>?_;by_cases hi:i<s.2.1.length
  ·have q:R2.getD i []=g.getD i []:=by
    rw[g2];by_cases z:i=s.2.2.1;·rw[if_neg (by omega),dW,if_pos ⟨z,h.r⟩,z]
    ·rw[if_pos (by omega)]
   have hi2:i<g.length:=by rw[hg.n];exact hi
   rw[List.getD_eq_getElem?_getD,List.getD_eq_getElem?_getD,List.getElem?_eq_getElem (by omega),List.getElem?_eq_getElem hi2]at q;rw[List.getElem?_eq_getElem (by omega),List.getElem?_eq_getElem hi2];exact congrArg some q
  ·rw[List.getElem?_eq_none (by omega),List.getElem?_eq_none (by rw[hg.n];omega)]
 rw[this]
def Df{s s1 s2:St}{l o j:Od}(h:GS s)(hj:fk l o=some j)(e1:aW s l=some s1)(e2:aW s1 o=some s2):aW s j=some s2:=by
 obtain⟨wd,rows,r,c⟩:=s;have h4:=h.r;have h5:=h.c;have h6:=h.l;dsimp only at h4 h5 h6;obtain⟨g1,_⟩:=h6 _ (gG h4);cases l <;> cases o <;> first|(simp[fk]at hj;done)|skip
 ·rename_i x y;simp only[fk]at hj;split at hj
  ·cases hj;by_cases hn:wd<c+x.length;·simp only[aW,hn]at e1;cases e1
   ·simp only[aW,hn]at e1;cases e1;by_cases hm:wd<c+x.length+y.length;·simp only[aW,hm]at e2;cases e2
    ·simp only[aW,hm]at e2;cases e2;simp only[aW,mj h4,List.length_append];have t1:((rows.getD r []).take c).length=c:=by rw[List.length_take];omega
     have t2:((rows.getD r []).take c++x).length=c+x.length:=by rw[List.length_append,t1]
     have a1:((rows.getD r []).take c++x++(rows.getD r []).drop (c+x.length)).take (c+x.length)=(rows.getD r []).take c++x:=by rw[List.take_append_of_le_length (by omega),<- t2,List.take_length]
     have a2:((rows.getD r []).take c++x++(rows.getD r []).drop (c+x.length)).drop (c+x.length+y.length)=(rows.getD r []).drop (c+(x.length+y.length)):=by
      rw[<- t2,List.drop_append,List.drop_of_length_le (by omega),List.nil_append,t2,List.drop_drop]
      congr 1;omega
     have hk2 : ¬ wd<c+(x.length+y.length):=by omega
     rw[a1,a2,if_neg hk2];simp[Nat.add_assoc]
  ·cases hj
 ·rename_i r1 c1 r2 c2;simp only[fk,Option.some.injEq]at hj;subst hj;by_cases hn:rows.length<=r1\/wd<c1;·simp only[aW,hn]at e1;cases e1
  ·simp only[aW,hn]at e1;cases e1;exact e2
 ·simp only[fk,Option.some.injEq]at hj;subst hj;simp only[aW,Option.some.injEq]at e1;subst e1;simp only[aW,mj h4,List.set_set,Option.some.injEq]at e2;subst e2;have t1:((rows.getD r []).take c).length=c:=by rw[List.length_take];omega
  have a1:((rows.getD r []).take c++List.replicate (wd - c) 32).take c=(rows.getD r []).take c:=by rw[List.take_append_of_le_length (by omega)];exact List.take_of_length_le (by omega)
  simp only[aW];rw[a1]
def Dp{s s':St}{acc:List Od}{o:Od}(h:GS s)(hk:∀p∈acc,okO p=true)(e:rn (some s) (acc++[o])=some s'):rn (some s) (eA acc o)=some s':=by
 rcases Bx acc with rfl|⟨a,l,rfl⟩;·exact e
 ·cases hj:fk l o with
  |none=>rw[jW hj];exact e
  |some j=>
   rw[iQ hj];rw[fh,fh]at e;rw[fh];cases q:rn (some s) a with
   |none=>rw[q,dG,dG]at e;cases e
   |some s1=>
    rw[q]at e;have h1:=Fq a h (λp hp=>hk p (List.mem_append_left _ hp)) q;have e1:rn (some s1) [l]=aW s1 l:=rfl;rw[e1]at e;cases q2:aW s1 l with
    |none=>rw[q2,dG]at e;cases e
    |some s2=>rw[q2]at e;have e2:=e;exact Df h1 hj q2 e2
theorem pL{s s':St}(h:GS s):∀(os acc:List Od),(∀p∈acc,okO p=true)->(∀p∈os,okO p=true)->rn (some s) (acc++os)=some s'->rn (some s) (os.foldl eA acc)=some s'
 | [],acc,_,_,e=>by rw[List.append_nil]at e;exact e
 |o::os,acc,h1,h2,e=>by
  refine pL h os (eA acc o) (pZ h1 (h2 o (List.mem_cons_self ..))) (λp hp=>h2 p (List.mem_cons_of_mem _ hp)) ?_;rw[show acc++o::os=acc++[o]++os by simp,fh]at e;rw[fh];cases q:rn (some s) (acc++[o])with
  |none=>rw[q,dG]at e;cases e
  |some s1=>rw[Dp h h1 q,<- q];exact e
def CU(h:GS s)(hg:GL s g):∃r c,rn (some s) (shO (cK s g))=some (s.1,g,r,c):=by obtain⟨r,c,e⟩:=zM h hg;exact⟨r,c,pL h (cK s g) [] (λ_ h=>by cases h) (λo ho=>(jK h hg o ho).1) e⟩
end
end Q
namespace Q92
open L2 Q
open PySem (sizeLine Addr)
noncomputable def yY(cD:List D->R D):Ev->O:=(eU 1 (az 2 cD (ac (rvz 0) (ac (ciz 10) nlz))))
noncomputable def zp(cA:List D->R D):Ev->O:=(eU 2 (az 3 cA (ac (rvz 0) (ac (ciz 500) (ac (rvz 1) nlz)))))
noncomputable def ww(de cr:List D->R D):Ev->O:=(KL 3 4 (ac (az 2 cr (ac (rvz 1) (ac (rvz 2) nlz))) (ac (az 2 de (ac (rvz 1) (ac (rvz 2) nlz))) nlz)))
noncomputable def zK(ai:Addr)(aQ:MF):Ev->O:=(ao (mJ ai 5 1 aQ (ac (rvz 8) nlz)) oNx)
noncomputable def wN(ai:Addr)(aQ:MF):Ev->O:=(oN (la 8) (ax bI (rvz 4)) (zK ai aQ))
noncomputable def yK(ai:Addr)(aA av ck:MF)(fG:List D->R D):Ev->O:=(Iz (xOr (Ej (gB2 neF (g2 ixD (bX ai 5 aA) (ciz 1)) (rvz 3))) (xOr (sy neF (bX ai 5 av) (iZ ai 6 1 ck (ac (rvz 2) nlz))) (Ej (gB2 neF (bX ai 5 av) (az 1 fG (ac (rvz 4) nlz)))))) (ao (cF (λ_=>R.ok (D.bl false))) oNx) oNx)
noncomputable def yt(ai:Addr)(aQ:MF):Ev->O:=(ao (mJ ai 7 1 aQ (ac (ax mkT (ac (csz [103,111]) (ac (rvz 9) (ac (rvz 10) nlz)))) nlz)) (ao (mJ ai 7 1 aQ (ac (ax mkT (ac (csz [103,111]) (ac (rvz 9) (ac (rvz 10) nlz)))) nlz)) (ao (mJ ai 7 1 aQ (ac (ax mkT (ac (csz [115,97,121]) (ac (gSl (g2 ixD (rvz 3) (rvz 9)) (fK (rvz 10)) (fK (g2 bJ (rvz 10) (rvz 11)))) nlz))) nlz)) oNx)))
noncomputable def yi(ai:Addr)(aQ:MF)(dF:List D->R D):Ev->O:=(oN (ur [9,10,11]) (ax bI (az 2 dF (ac (rvz 1) (ac (rvz 2) nlz)))) (yt ai aQ))
noncomputable def AE(ai:Addr)(aA av:MF):Ev->O:=(oIf (vp (gB2 neF (g2 ixD (bX ai 7 aA) (ciz 1)) (rvz 3)) (gB2 ltD (bX ai 7 av) (bX ai 5 av))) (ao (cF (λ_=>R.ok (D.bl false))) oNx) oNx)
noncomputable def uM:Ev->O:=(zu 12 (tj nlz))
noncomputable def pQ:Ev->O:=(ao (KN 12 (cL (tj (ac (ax mkT (ac (csz [103,111]) (ac (rvz 9) (ac (rvz 10) nlz)))) (ac (ax mkT (ac (csz [103,111]) (ac (rvz 9) (ac (rvz 10) nlz)))) (ac (ax mkT (ac (csz [115,97,121]) (ac (gSl (g2 ixD (rvz 3) (rvz 9)) (fK (rvz 10)) (fK (g2 bJ (rvz 10) (rvz 11)))) nlz))) nlz)))))) oNx)
noncomputable def uy(dF:List D->R D):Ev->O:=(oN (ur [9,10,11]) (ax bI (az 2 dF (ac (rvz 1) (ac (rvz 2) nlz)))) (pQ))
noncomputable def uK(ai:Addr)(aQ:MF):Ev->O:=(ao (mJ ai 13 1 aQ (ac (rvz 8) nlz)) oNx)
noncomputable def qL(ai:Addr)(aQ:MF)(aL:List D->R D):Ev->O:=(oN (la 8) (ax bI (az 1 aL (ac (rvz 12) nlz))) (uK ai aQ))
noncomputable def pw(ai:Addr)(aA av:MF):Ev->O:=(cF (lA (g2 eqF (bX ai 13 aA) (bX ai 7 aA)) (g3 geD geD (bX ai 7 av) (bX ai 13 av) (bX ai 5 av))))
noncomputable def E7(ai:Addr)(aQ aA av:MF)(aL:List D->R D):Ev->O:=(Bz 12 (ao (qL ai aQ aL) (ao (pw ai aA av) oNx)))
noncomputable def qe(ai:Addr)(aQ aA:MF)(av ck dS:MF)(cD cA:List D->R D)(de cr:List D->R D)(fG dF aL:List D->R D):Addr×Addr×Addr×Addr×Unit->Ev->O:=(nA (yY cD) (nA (zp cA) (nA (ww de cr) (uV ai 5 6 7 dS 1 (ac (rvz 1) nlz) (ac (rvz 1) nlz) (ac (rvz 1) nlz) (nA (wN ai aQ) (nA (yK ai aA av ck fG) (nA (yi ai aQ dF) (nA (AE ai aA av) (nA (uM) (nA (uy dF) (Et ai 13 dS 1 (ac (rvz 1) nlz) (yE (E7 ai aQ aA av aL)))))))))))))
noncomputable def ci(g:List (List Nat))(t:Tr):List Od:=.go t.1 t.2.1::Gp g t
def LD(r c:Nat)(os:List Od):∀a:Option Q.St,rn a (.go r c::.go r c::os)=rn a (.go r c::os)
 |none=>by rw[dG,dG]
 |some s=>by
  show rn ((aW s (.go r c)).bind λt=>aW t (.go r c)) os=rn (aW s (.go r c)) os;cases z:aW s (.go r c)with
  |none=>rfl
  |some t=>
   have:aW t (.go r c)=some t:=by
    simp only[aW]at z⊢;split at z;·cases z
    ·rename_i q;cases z;exact if_neg q
   exact congrArg (λx=>rn x os) this
theorem DD(g:List (List Nat)):∀(ts:List Tr)(a:Option Q.St),rn a (ts.flatMap (ci g))=rn a (ts.flatMap (Gp g))
 | [],_=>rfl
 |t::ts,a=>by rw[List.flatMap_cons,List.flatMap_cons,fh,fh,DD g ts];exact congrArg (λx=>rn x _) (LD t.1 t.2.1 _ a)
def G6{g:List (List Nat)}{wd:Nat}(hg:∀k,k<g.length->(g.getD k []).length=wd/\aX (g.getD k [])=true)(hw:wd<=40)(hm:g.length<=12){ts:List Tr}(h:∀t∈ts,t.1<g.length/\1<=t.2.2/\t.2.1+t.2.2<=wd):∀o∈ts.flatMap (ci g),okO o=true:=by
 intro o ho;obtain⟨⟨k,c,n⟩,ht,ho⟩:=List.mem_flatMap.1 ho;have h1:=h _ ht;dsimp only at h1;have a:okO (.go k c)=true:=by simp only[okO,Bool.and_eq_true,decide_eq_true_eq];omega
 rcases List.mem_cons.1 ho with rfl|ho;·exact a
 rcases List.mem_cons.1 ho with rfl|ho;·exact a
 ·rw[List.mem_singleton.1 ho];have e:(((g.getD k []).drop c).take n).length=n:=by rw[List.length_take,List.length_drop,(hg k h1.1).1];omega
  have p:aX (((g.getD k []).drop c).take n)=true:=jP (hg k h1.1).2 λx hx=>List.mem_of_mem_drop (List.mem_of_mem_take hx);simp only[okO,Bool.and_eq_true,decide_eq_true_eq];exact⟨p,by omega,by omega⟩
def Dw(ts:List Tr)(h:∀t∈ts,1<=t.2.2):ts.length<=(ts.flatMap xS).length:=by
 induction ts with
 |nil=>exact Nat.le_refl _
 |cons t ts ih=>have h1:=h _ (List.mem_cons_self ..);have:=ih λt ht=>h t (List.mem_cons_of_mem _ ht);rw[List.flatMap_cons,List.length_append,List.length_cons];unfold xS;rw[List.length_map,List.length_range'];unfold xS at this;omega
theorem yo(g:List (List Nat)):∀ts:List Tr,(ts.flatMap (ci g)).length=3 * ts.length
 | []=>rfl
 |t::ts=>by rw[List.flatMap_cons,List.length_append,yo g ts,List.length_cons];show 3+_=_;omega
structure Told(s:Q.St)(g:List (List Nat))(ts:List Tr):Prop where
 run:∃r c,rn (some s) (ts.flatMap (ci g))=some (s.1,g,r,c)
 ok:∀o∈ts.flatMap (ci g),okO o=true
 len:ts.length<=32
 mem:∀t∈ts,t.1<g.length/\1<=t.2.2/\t.2.1+t.2.2<=s.1
def HK{s:Q.St}{g:List (List Nat)}(h:GS s)(hg:GL s g)(w8:s.1<=8)(m4:s.2.1.length<=4):Told s g (ux s.1 s.2.1 g):=by
 have hgl:∀k,k<g.length->(g.getD k []).length=s.1/\aX (g.getD k [])=true:=λk hk=>dH hg (by rw[<- hg.n];exact hk);have rs:∀x∈s.2.1,x.length=s.1:=λx hx=>(h.l x hx).1;have gr:∀x∈g,x.length=s.1:=λx hx=>(hg.l x hx).1;have pl:∀p∈prL s.2.1 g,p.1.length=s.1/\p.2.length=s.1:=λp hp=>by have:=List.of_mem_zip (show(p.1,p.2)∈s.2.1.zip g from hp);exact⟨rs _ this.1,gr _ this.2⟩
 have pn:(prL s.2.1 g).length=s.2.1.length:=by unfold prL;rw[List.length_zipWith,hg.n,Nat.min_self]
 have mem:∀t∈ux s.1 s.2.1 g,t.1<g.length/\1<=t.2.2/\t.2.1+t.2.2<=s.1:=λt ht=>by have:=Ap s.1 _ 0 (λp hp=>(pl p hp).1) t ht;rw[hg.n];rw[pn]at this;omega
 have sl:((ux s.1 s.2.1 g).flatMap xS).length<=32:=by unfold ux;rw[oQ];refine Nat.le_trans (fU _ _ _) ?_;rw[pn];exact Nat.mul_le_mul w8 m4
 have tl:=Dw _ λt ht=>(mem t ht).2.1;obtain⟨r1,c1,run⟩:=yk (prL s.2.1 g) 0 (by
   exact(List.map_fst_zip (Nat.le_of_eq hg.n.symm)).symm) (by
   exact(List.map_snd_zip (Nat.le_of_eq hg.n)).symm) pl;rw[List.take_zero,List.nil_append,show(prL s.2.1 g).map (·.2)=g from List.map_snd_zip (Nat.le_of_eq hg.n)]at run;exact⟨⟨r1,c1,(DD g _ _).trans run⟩,G6 hgl (by omega) (by rw[hg.n];omega) mem,by omega,mem⟩
def eN{n:Nat}{fs:List (Nat×Fd)}(ho:ρ[i]?=some (some (.obj true C p fs)))(ha:gl ρ=.ok ds)(hl:ds.length=n)(hF:F fs ds=.ok d fs'):mJ C i n F gl ρ=.nx (ρ.set i (some (.obj true C p fs'))):=by unfold mJ;rw[kO ho,R.ok_out,ha,R.ok_out,if_pos hl];rw[hF];rfl
section
variable{x0 x1 x2 x3 x4 x5 x6 x7 x8 x9 x10 x11 x12 x13:Option Sl}
def LB{M:MF}{fs:List (Nat×Fd)}{u:D}(e:M fs [u]=.ok d fs'):zK ai M [x0,x1,x2,x3,x4,vO ai p fs,x6,x7,vD u,x9,x10,x11,x12,x13]=.nx [x0,x1,x2,x3,x4,vO ai p fs',x6,x7,vD u,x9,x10,x11,x12,x13]:=
 (gR (eN rfl rfl rfl e)).trans rfl
def Hx{M:MF}{fs:List (Nat×Fd)}{u:D}(e:M fs [u]=.ok d fs'):uK ai M [x0,x1,x2,x3,x4,x5,x6,x7,vD u,x9,x10,x11,x12,vO ai p fs]=.nx [x0,x1,x2,x3,x4,x5,x6,x7,vD u,x9,x10,x11,x12,vO ai p fs']:=
 (gR (eN rfl rfl rfl e)).trans rfl
def HI{g:List (List Nat)}{c n wd:Nat}(hk:k<g.length)(hg:(g.getD k []).length=wd)(hc:c+n<=wd)(x12:Option Sl):
  (ac (ax mkT (ac (csz [115,97,121]) (ac (gSl (g2 ixD (rvz 3) (rvz 9)) (fK (rvz 10)) (fK (g2 bJ (rvz 10) (rvz 11)))) nlz))) nlz) [x0,x1,x2,vD (.tup (g.map .str)),x4,x5,x6,x7,x8,vI k,vI c,vI n,x12,x13]=.ok [oD (.say (((g.getD k []).drop c).take n))]:=by
 have k2:∀x:D,mkT [.str [115,97,121],x]=.ok (.tup [.str [115,97,121],x]):=λ_=>rfl;have q1:ixD (.tup (g.map .str)) (.int (k:Int))=some (.str (g.getD k [])):=by refine HC ?_;rw[List.getElem?_map,List.getElem?_eq_getElem hk,List.getD_eq_getElem?_getD,List.getElem?_eq_getElem hk];rfl
 have a1:bJ (.int (c:Int)) (.int (n:Int))=some (.int ((c+n:Nat):Int)):=rfl;have s1:CJ (some (c:Int)) (some ((c+n:Nat):Int)) (.str (g.getD k []))=some (.str (((g.getD k []).drop c).take n)):=by rw[GE,zz]
 show _=R.ok [D.tup [.str [115,97,121],.str (((g.getD k []).drop c).take n)]]
 walk_at "run"
def LO{M:MF}{fs f1 f2 f3:List (Nat×Fd)}{d1 d2 d3:D}{g:List (List Nat)}{c n wd:Nat}(hk:k<g.length)(hg:(g.getD k []).length=wd)(hc:c+n<=wd)(e1:M fs [oD (.go k c)]=.ok d1 f1)(e2:M f1 [oD (.go k c)]=.ok d2 f2)(e3:M f2 [oD (.say (((g.getD k []).drop c).take n))]=.ok d3 f3):
  yt ai M [x0,x1,x2,vD (.tup (g.map .str)),x4,x5,x6,vO ai p fs,x8,vI k,vI c,vI n,x12,x13]=.nx [x0,x1,x2,vD (.tup (g.map .str)),x4,x5,x6,vO ai p f3,x8,vI k,vI c,vI n,x12,x13]:=
 (gR (eN rfl rfl rfl e1)).trans ((gR (eN rfl rfl rfl e2)).trans ((gR (eN rfl (HI hk hg hc x12) rfl e3)).trans rfl))
def pJ{s s':Q.St}{o:Od}{os:List Od}(e:rn (some s) (o::os)=some s'):∃t,aW s o=some t/\rn (some t) os=some s':=by
 have e:rn (aW s o) os=some s':=e;cases z:aW s o with
 |none=>rw[z,dG]at e;cases e
 |some t=>rw[z]at e;exact⟨t,rfl,e⟩
theorem J8{Cs Co Cr p:Addr}{g:List (List Nat)}{wd:Nat}(hg:∀k,k<g.length->(g.getD k []).length=wd):∀(ts:List Tr){s s':Q.St}(l tk:List D)(a:D)(c:Int)(x9 x10 x11:Option Sl),(∀t∈ts,t.1<g.length/\1<=t.2.2/\t.2.1+t.2.2<=wd)->GS s->(∀o∈ts.flatMap (ci g),okO o=true)->rn (some s) (ts.flatMap (ci g))=some s'->l.length+3 * ts.length<900->
  ∃l' tk' a' y9 y10 y11,cg (ur [9,10,11]) (yt ai (doG (kL Cs Co Cr) ocG)) (ts.map snD) [x0,x1,x2,vD (.tup (g.map .str)),x4,x5,x6,vO ai p (bK (l++[st3 a (sD s) c]) tk),x8,x9,x10,x11,x12,x13] =
   .nx [x0,x1,x2,vD (.tup (g.map .str)),x4,x5,x6,vO ai p (bK (l'++[st3 a' (sD s') (c+fm (ts.flatMap (ci g)))]) tk'),x8,y9,y10,y11,x12,x13]
 | [],s,s',l,tk,a,c,x9,x10,x11,_,h,ho,e,hl=>by cases e;exact⟨l,tk,a,x9,x10,x11,by simp[cg,fm]⟩
 | (k,i,n)::ts,s,s',l,tk,a,c,x9,x10,x11,hm,h,ho,e,hl=>by
  have h1:=hm _ (List.mem_cons_self ..);simp only[List.length_cons]at hl;obtain⟨s1,z1,e⟩:=pJ e;obtain⟨s2,z2,e⟩:=pJ e;obtain⟨s3,z3,e⟩:=pJ e;have o1:=ho (.go k i) (by simp[ci]);have o3:=ho (.say (((g.getD k []).drop i).take n)) (by simp[ci,Gp]);have g1:=gC h o1 z1;have g2:=gC g1 o1 z2;have g3:=gC g2 o3 z3;have q1:=KH (Cs:=Cs) (Co:=Co) (Cr:=Cr) h o1 z1 (l:=l) (tk:=tk) (a:=a) (c:=c) (by omega);have q2:=KH (Cs:=Cs) (Co:=Co) (Cr:=Cr) g1 o1 z2 (l:=l++[st3 a (sD s) c]) (tk:=[]) (a:=.str wDo) (c:=c+(bb (.go k i):Int)) (by simp;omega);have q3:=KH (Cs:=Cs) (Co:=Co) (Cr:=Cr) g2 o3 z3 (l:=l++[st3 a (sD s) c]++[st3 (.str wDo) (sD s1) (c+(bb (.go k i):Int))]) (tk:=[]) (a:=.str wDo) (c:=c+(bb (.go k i):Int)+(bb (.go k i):Int)) (by simp;omega);obtain⟨l',tk',a',y9,y10,y11,ih⟩:=J8 hg ts (l++[st3 a (sD s) c]++[st3 (.str wDo) (sD s1) (c+(bb (.go k i):Int))]++[st3 (.str wDo) (sD s2) (c+(bb (.go k i):Int)+(bb (.go k i):Int))]) [] (.str wDo) (c+(bb (.go k i):Int)+(bb (.go k i):Int)+(bb (.say (((g.getD k []).drop i).take n)):Int)) (vI k) (vI i) (vI n) (λt ht=>hm t (List.mem_cons_of_mem _ ht)) g3 (λo hp=>ho o (List.mem_append_right _ hp)) e (by simp;omega);refine⟨l',tk',a',y9,y10,y11,?_⟩;refine(dX rfl (LO h1.1 (hg k h1.1) h1.2.2 q1 q2 q3)).trans (ih.trans ?_);have ec:fm (((k,i,n)::ts).flatMap (ci g))=(bb (.go k i):Int)+((bb (.go k i):Int)+((bb (.say (((g.getD k []).drop i).take n)):Int)+fm (ts.flatMap (ci g)))):=by rw[<- iL,<- iL,<- iL];rfl
  rw[ec];simp only[Int.add_assoc]
def IP{B:List D}{g:List (List Nat)}{c n wd:Nat}(hk:k<g.length)(hg:(g.getD k []).length=wd)(hc:c+n<=wd)(hB:B.length<=900):
  pQ [x0,x1,x2,vD (.tup (g.map .str)),x4,x5,x6,x7,x8,vI k,vI c,vI n,some (.own B),x13]=.nx [x0,x1,x2,vD (.tup (g.map .str)),x4,x5,x6,x7,x8,vI k,vI c,vI n,some (.own (B++(ci g (k,c,n)).map oD)),x13]:=by
 have k1:mkT [.str [103,111],.int (k:Int),.int (c:Int)]=.ok (.tup [.str [103,111],.int (k:Int),.int (c:Int)]):=rfl;have k2:∀x:D,mkT [.str [115,97,121],x]=.ok (.tup [.str [115,97,121],x]):=λ_=>rfl;have q1:ixD (.tup (g.map .str)) (.int (k:Int))=some (.str (g.getD k [])):=by refine HC ?_;rw[List.getElem?_map,List.getElem?_eq_getElem hk,List.getD_eq_getElem?_getD,List.getElem?_eq_getElem hk];rfl
 have a1:bJ (.int (c:Int)) (.int (n:Int))=some (.int ((c+n:Nat):Int)):=rfl;have s1:CJ (some (c:Int)) (some ((c+n:Nat):Int)) (.str (g.getD k []))=some (.str (((g.getD k []).drop c).take n)):=by rw[GE,zz]
 have e1:(ci g (k,c,n)).map oD=[D.tup [.str [103,111],.int (k:Int),.int (c:Int)],.tup [.str [103,111],.int (k:Int),.int (c:Int)],.tup [.str [115,97,121],.str (((g.getD k []).drop c).take n)]]:=rfl;have z3:(3:Nat)<=sizeLine:=by decide
 have z4:B.length+3<=sizeLine:=Nat.le_trans (show B.length+3<=1000 by omega) (by decide);unfold pQ;have o5:∀(a b c d e f g h i j k l:Option Sl)(B:List D)(ρ:Ev),ownAt (a::b::c::d::e::f::g::h::i::j::k::l::some (.own B)::ρ) 12=.ok B:=λ_ _ _ _ _ _ _ _ _ _ _ _ _ _=>rfl
 walk_at "run"
theorem Ep{g:List (List Nat)}{wd:Nat}(hg:∀k,k<g.length->(g.getD k []).length=wd):∀(ts:List Tr)(B:List D)(x9 x10 x11:Option Sl),(∀t∈ts,t.1<g.length/\1<=t.2.2/\t.2.1+t.2.2<=wd)->B.length+3 * ts.length<=900->
  ∃y9 y10 y11,cg (ur [9,10,11]) (pQ) (ts.map snD) [x0,x1,x2,vD (.tup (g.map .str)),x4,x5,x6,x7,x8,x9,x10,x11,some (.own B),x13] =
   .nx [x0,x1,x2,vD (.tup (g.map .str)),x4,x5,x6,x7,x8,y9,y10,y11,some (.own (B++(ts.flatMap (ci g)).map oD)),x13]
 | [],B,x9,x10,x11,_,_=>⟨x9,x10,x11,by simp[cg]⟩
 | (k,c,n)::ts,B,x9,x10,x11,h,hB=>by have h1:=h _ (List.mem_cons_self ..);simp only[List.length_cons]at hB;obtain⟨y9,y10,y11,ih⟩:=Ep hg ts (B++(ci g (k,c,n)).map oD) (vI k) (vI c) (vI n) (λt ht=>h t (List.mem_cons_of_mem _ ht)) (by rw[List.length_append,List.length_map];show _+3+_<=_;omega);refine⟨y9,y10,y11,?_⟩;refine(dX rfl (IP h1.1 (hg k h1.1) h1.2.2 (by omega))).trans (ih.trans ?_);rw[List.flatMap_cons,List.map_append,List.append_assoc]
end
def FM{ga:Ev->R D}{ρ':Ev}{i:Int}(ha:ga ρ=.ok (.int i))(h:g ρ=.re (.int i) ρ'):sy neF ga g ρ=.re (.bl false) ρ':=by unfold sy;rw[ha];rw[h];show((ofO (neF (.int i) (.int i))).out ρ' λd=>O.re d ρ')=_;rw[yS rfl];rfl
def Lh{ga:Ev->R D}{a b:Int}(h1:ga ρ=.ok (.int a))(h2:gb ρ=.ok (.int b))(h:b<=a):gB2 ltD ga gb ρ=.ok false:=by unfold gB2 L2.g2;rw[h1,h2];show R.ok (decide (a<b))=_;rw[decide_eq_false (by omega)]
def wu{set:D->Ev->R Ev}{body:Ev->O}{l:List D}(h:gi ρ=.ok l):oN set gi body ρ=cg set body l ρ:=by unfold oN;rw[h];rfl
def Eh{ga:Ev->R D}{s:Q.St}(h:ga ρ=.ok (sD s)):L2.g2 ixD ga (λ_=>R.ok (.int 1)) ρ=.ok (.tup (s.2.1.map .str)):=by unfold L2.g2;rw[h];rfl
def Em(g:List (List Nat)):cl 10 (.tup (g.map .str))=true:=by show(g.map D.str).all (cl 9)=true;rw[List.all_eq_true];intro x hx;obtain⟨t,_,rfl⟩:=List.mem_map.1 hx;rfl
def Ij{ga gc:Ev->R D}{a b c:Int}(h1:ga ρ=.ok (.int a))(h2:gb ρ=.ok (.int b))(h3:gc ρ=.ok (.int c))(q1:b<=a)(q2:c<=b):L2.g3 geD geD ga gb gc ρ=.ok (.bl true):=by
 have z1:geD (.int a) (.int b)=some (.bl true):=by show some (D.bl (decide (a ≥ b)))=_;rw[decide_eq_true q1]
 have z2:geD (.int b) (.int c)=some (.bl true):=by show some (D.bl (decide (b ≥ c)))=_;rw[decide_eq_true q2]
 unfold L2.g3;rw[h1,h2];simp only[R.ok_bind,z1,z2,h3];rfl
def Jf{ga:Ev->R D}(h1:ga ρ=.ok d)(h2:gb ρ=.ok d)(hc:cl 10 d=true):L2.g2 eqF ga gb ρ=.ok (.bl true):=by unfold L2.g2;rw[h1,h2];show ofO (eqF d d)=_;rw[C3 hc];rfl
def E6{ga:Ev->R D}(h1:ga ρ=.ok (.bl true)):lA ga gb ρ=gb ρ:=by unfold lA;rw[h1];rfl
noncomputable abbrev en(fz:Bool)(ns:List Int)(s:Q.St)(xs g:List (List Nat))(r:Ev):Ev:=vL fz ns::vD (sD s)::vD (.lst false (xs.map .str))::vD (.tup (g.map .str))::vD (.lst false ((shO (cK s g)).map oD))::r
def KS{Cs Co Cr:Addr}(ns:List Int)(fz:Bool)(q:Addr×Addr×Addr×Addr×Unit):
  ak (qe ai (doG (kL Cs Co Cr) ocG) fb ff (vx Co) (ou Cs) xF He (leF Co) KB (coG Co) Fp (shG Co) q (aj 14 [.lst fz (ns.map .int)]))=.ok (.bl true):=by
 obtain⟨s,h,e0,e1,e2⟩:=JJ ns 10;have w2:=(qa ns 10).2.1;have m2:=(pO ns 10).2.1;have hx:=Hc (ns:=ns) (a:=500) h;have hb:4 * s.1 * (s.2.1.length+1)<=160:=Nat.le_trans (Nat.mul_le_mul (Nat.mul_le_mul_left 4 (show s.1<=8 by omega)) (show s.2.1.length+1<=5 by omega)) (by decide);have a1:xF [.lst fz (ns.map .int),.int 10]=.ok (sD s):=by rw[<- e0];exact AW
 have a2:He [.lst fz (ns.map .int),.int 500,sD s]=_:=IZ h;generalize xA ns 500 s.1 (s.2.1.map .str)=xs at *;have hg:=nv hx;have a3:=JQ h hx false;have a4:=Jw (C:=Co) h hx (by omega) false;have a6:=Bs (Co:=Co) h hx (by omega) (f:=false) (l:=[]) (tk:=[]) (a:=.str eV) (c:=0) (by simp);have a7:=Gf h hx false;have T:=HK h hg (by omega) (by omega);have ll:=nO h hg;have nw:=FZ (Cs:=Cs) h;generalize eJ s.2.1.length s.1 xs=g at *;have o1:=FY λo ho=>(jK h hg o ho).1;have l1:=(iC (cK s g) []).1;obtain⟨r1,c1,run1⟩:=CU h hg;have a5:=Jl (C:=Co) (f:=false) o1 (Nat.le_trans l1 (by simp;omega));have l1:(shO (cK s g)).length<=160:=Nat.le_trans l1 (by simp;omega);obtain⟨⟨r2,c2,run2⟩,ok2,oq,mem2⟩:=T;generalize ux s.1 s.2.1 g=ts at *;have n2:=yo g ts;have hgl:∀k,k<g.length->(g.getD k []).length=s.1:=λk hk=>(dH hg (by rw[<- hg.n];exact hk)).1;have a8:=M9 (C:=Co) (f:=false) ok2 (by omega);have ok3:=FY ok2;have run3:=pL h _ [] (λ_ h=>by cases h) ok2 run2;have l3:=(iC (ts.flatMap (ci g)) [])
 have l3':(shO (ts.flatMap (ci g))).length<=96:=Nat.le_trans l3.1 (by rw[List.length_nil];omega);have m3:=zx h hg ok3 run3 rfl;have k3:((shO (ts.flatMap (ci g))).map bb).sum<=((ts.flatMap (ci g)).map bb).sum:=Nat.le_trans l3.2 (by simp);have lc:(0:Int)+fm (shO (cK s g))=(dq s g:Int):=Int.zero_add _;have d1:=λx6 x7 x9 x10 x11 x12 x13=>tW (set:=la 8) (body:=zK ai (doG (kL Cs Co Cr) ocG))
  (λfs x=>(en fz ns s xs g [vO ai q.1 fs,x6,x7,x,x9,x10,x11,x12,x13])) (λ_ _ _=>rfl) (λe=>LB e) (shO (cK s g)) [] [] (.str eV) 0 none h o1 run1 (by simp;omega);obtain⟨l',tk',a',y8,hl',d1⟩:=d1 (vO ai q.2.1 (bK [st3 (.str eV) (sD s) 0] [])) (vO ai q.2.2.1 (bK [st3 (.str eV) (sD s) 0] [])) none none none none none;rw[lc]at d1;obtain⟨l2,tk2,b2,y9,y10,y11,d2⟩:=J8 (ai:=ai) (Cs:=Cs) (Co:=Co) (Cr:=Cr) (x0:=vL fz ns) (x1:=vD (sD s)) (x2:=vD (.lst false (xs.map .str))) (x4:=vD (.lst false ((shO (cK s g)).map oD))) (x5:=vO ai q.1 (bK (l'++[st3 a' (sD (s.1,g,r1,c1)) (dq s g:Int)]) tk')) (x6:=vO ai q.2.1 (bK ([]++[st3 (.str eV) (sD s) 0]++[st3 (.str je) (sD (brS s g)) (0+(dq s g:Int))]) [])) (x8:=y8) (x12:=none) (x13:=none) (p:=q.2.2.1) hgl ts [] [] (.str eV) 0 none none none mem2 h ok2 run2 (by simp;omega);obtain⟨z9,z10,z11,d3⟩:=Ep (x0:=vL fz ns) (x1:=vD (sD s)) (x2:=vD (.lst false (xs.map .str))) (x4:=vD (.lst false ((shO (cK s g)).map oD))) (x5:=vO ai q.1 (bK (l'++[st3 a' (sD (s.1,g,r1,c1)) (dq s g:Int)]) tk')) (x6:=vO ai q.2.1 (bK ([]++[st3 (.str eV) (sD s) 0]++[st3 (.str je) (sD (brS s g)) (0+(dq s g:Int))]) [])) (x7:=vO ai q.2.2.1 (bK (l2++[st3 b2 (sD (s.1,g,r2,c2)) (0+fm (ts.flatMap (ci g)))]) tk2)) (x8:=y8) (x13:=none) hgl ts [] y9 y10 y11 mem2 (by simp;omega);obtain⟨l4,tk4,b4,w8,hl4,d4⟩:=tW (set:=la 8) (body:=uK ai (doG (kL Cs Co Cr) ocG))
  (λfs x=>(en fz ns s xs g [vO ai q.1 (bK (l'++[st3 a' (sD (s.1,g,r1,c1)) (dq s g:Int)]) tk'),vO ai q.2.1 (bK ([]++[st3 (.str eV) (sD s) 0]++[st3 (.str je) (sD (brS s g)) (0+(dq s g:Int))]) []),vO ai q.2.2.1 (bK (l2++[st3 b2 (sD (s.1,g,r2,c2)) (0+fm (ts.flatMap (ci g)))]) tk2),x,z9,z10,z11,vD (.lst false ((ts.flatMap (ci g)).map oD)),vO ai q.2.2.2.1 fs])) (λ_ _ _=>rfl) (λe=>Hx e) (shO (ts.flatMap (ci g))) [] [] (.str eV) 0 y8 h ok3 run3 (by simp;omega);have sa:fb (bK (l'++[st3 a' (sD (s.1,g,r1,c1)) (dq s g:Int)]) tk') []=_:=qi;have pa:ff (bK (l'++[st3 a' (sD (s.1,g,r1,c1)) (dq s g:Int)]) tk') []=_:=pv;have sc:fb (bK (l2++[st3 b2 (sD (s.1,g,r2,c2)) (0+fm (ts.flatMap (ci g)))]) tk2) []=_:=qi;have pc:ff (bK (l2++[st3 b2 (sD (s.1,g,r2,c2)) (0+fm (ts.flatMap (ci g)))]) tk2) []=_:=pv;have sd:fb (bK (l4++[st3 b4 (sD (s.1,g,r2,c2)) (0+fm (shO (ts.flatMap (ci g))))]) tk4) []=_:=qi;have pd:ff (bK (l4++[st3 b4 (sD (s.1,g,r2,c2)) (0+fm (shO (ts.flatMap (ci g))))]) tk4) []=_:=pv;have nw:nT (ou Cs) 1 [sD s]=.ok (bK ([]++[st3 (.str eV) (sD s) 0]) []):=nw;change cg _ _ _ [_,_,_,_,_,_,vO ai q.2.1 (bK ([]++[st3 (.str eV) (sD s) 0]) []),vO ai q.2.2.1 (bK ([]++[st3 (.str eV) (sD s) 0]) []),_,_,_,_,_,_]=.nx [_,_,_,_,_,_,vO ai q.2.1 (bK ([]++[st3 (.str eV) (sD s) 0]) []),vO ai q.2.2.1 (bK ([]++[st3 (.str eV) (sD s) 0]) []),_,_,_,_,_,_]at d1;generalize (bK (l'++[st3 a' (sD (s.1,g,r1,c1)) (dq s g:Int)]) tk')=PA at *;generalize (bK ([]++[st3 (.str eV) (sD s) 0]++[st3 (.str je) (sD (brS s g)) (0+(dq s g:Int))]) [])=PB at *;generalize (bK (l2++[st3 b2 (sD (s.1,g,r2,c2)) (0+fm (ts.flatMap (ci g)))]) tk2)=PC at *;generalize (bK (l4++[st3 b4 (sD (s.1,g,r2,c2)) (0+fm (shO (ts.flatMap (ci g))))]) tk4)=PD at *;generalize (bK ([]++[st3 (.str eV) (sD s) 0]) [])=P0 at *;have z1:yY xF (aj 14 [.lst fz (ns.map .int)])=.nx [vL fz ns,vD (sD s),none,none,none,none,none,none,none,none,none,none,none,none]:=by
  show(az 2 xF _ _).out _ _=_;exact(congrArg (λr:R D=>r.out _ _) ((ii rfl rfl).trans a1)).trans rfl
 have z2:zp He [vL fz ns,vD (sD s),none,none,none,none,none,none,none,none,none,none,none,none]=.nx [vL fz ns,vD (sD s),vD (.lst false (xs.map .str)),none,none,none,none,none,none,none,none,none,none,none]:=by show(az 3 He _ _).out _ _=_;exact(congrArg (λr:R D=>r.out _ _) ((ii rfl rfl).trans a2)).trans rfl
 have z3:ww (leF Co) KB [vL fz ns,vD (sD s),vD (.lst false (xs.map .str)),none,none,none,none,none,none,none,none,none,none,none]=.nx (en fz ns s xs g [none,none,none,none,none,none,none,none,none]):=by unfold ww KL;rw[sJ,ii (n:=2) rfl rfl,a3,R.ok_bind,sJ,ii (n:=2) rfl rfl,a4];rfl
 have z5:wN ai (doG (kL Cs Co Cr) ocG) (en fz ns s xs g [vO ai q.1 P0,vO ai q.2.1 P0,vO ai q.2.2.1 P0,none,none,none,none,none,none])=.nx (en fz ns s xs g [vO ai q.1 PA,vO ai q.2.1 P0,vO ai q.2.2.1 P0,y8,none,none,none,none,none]):=(wu rfl).trans d1;have z6:yK ai fb ff (vx Co) (coG Co) (en fz ns s xs g [vO ai q.1 PA,vO ai q.2.1 P0,vO ai q.2.2.1 P0,y8,none,none,none,none,none])=.nx (en fz ns s xs g [vO ai q.1 PA,vO ai q.2.1 PB,vO ai q.2.2.1 P0,y8,none,none,none,none,none]):=
  (FD ((D5 (zg (As (Eh (iB rfl sa)) rfl (Em g)))).trans ((D5 (FM (iB rfl pa) (wn rfl rfl rfl a6))).trans (zg (As (iB rfl pa) ((ii rfl rfl).trans a5) rfl))))).trans rfl;have z8:yi ai (doG (kL Cs Co Cr) ocG) Fp (en fz ns s xs g [vO ai q.1 PA,vO ai q.2.1 PB,vO ai q.2.2.1 P0,y8,none,none,none,none,none])=.nx (en fz ns s xs g [vO ai q.1 PA,vO ai q.2.1 PB,vO ai q.2.2.1 PC,y8,y9,y10,y11,none,none]):=(wu (by
  show az 2 Fp _ _>>=bI=_;rw[ii (n:=2) rfl rfl,a7];rfl)).trans d2;have z9':AE ai fb ff (en fz ns s xs g [vO ai q.1 PA,vO ai q.2.1 PB,vO ai q.2.2.1 PC,y8,y9,y10,y11,none,none])=.nx (en fz ns s xs g [vO ai q.1 PA,vO ai q.2.1 PB,vO ai q.2.2.1 PC,y8,y9,y10,y11,none,none]):=
  (Ki ((JT (As (Eh (iB rfl sc)) rfl (Em g))).trans (Lh (iB rfl pc) (iB rfl pa) (by unfold fm;omega)))).trans rfl;have z10':uM (en fz ns s xs g [vO ai q.1 PA,vO ai q.2.1 PB,vO ai q.2.2.1 PC,y8,y9,y10,y11,none,none])=.nx (en fz ns s xs g [vO ai q.1 PA,vO ai q.2.1 PB,vO ai q.2.2.1 PC,y8,y9,y10,y11,some (.own []),none]):=rfl;have z12:uy Fp (en fz ns s xs g [vO ai q.1 PA,vO ai q.2.1 PB,vO ai q.2.2.1 PC,y8,y9,y10,y11,some (.own []),none])=.nx (en fz ns s xs g [vO ai q.1 PA,vO ai q.2.1 PB,vO ai q.2.2.1 PC,y8,z9,z10,z11,some (.own ([]++((ts.flatMap (ci g)).map oD))),none]):=(wu (by
  show az 2 Fp _ _>>=bI=_;rw[ii (n:=2) rfl rfl,a7];rfl)).trans d3;have z14:qL ai (doG (kL Cs Co Cr) ocG) (shG Co) (en fz ns s xs g [vO ai q.1 PA,vO ai q.2.1 PB,vO ai q.2.2.1 PC,y8,z9,z10,z11,vD (.lst false ((ts.flatMap (ci g)).map oD)),vO ai q.2.2.2.1 P0])=.nx (en fz ns s xs g [vO ai q.1 PA,vO ai q.2.1 PB,vO ai q.2.2.1 PC,w8,z9,z10,z11,vD (.lst false ((ts.flatMap (ci g)).map oD)),vO ai q.2.2.2.1 PD]):=(wu (by
  show az 1 (shG Co) _ _>>=bI=_;rw[ii (n:=1) rfl rfl,a8];rfl)).trans d4;have z15:pw ai fb ff (en fz ns s xs g [vO ai q.1 PA,vO ai q.2.1 PB,vO ai q.2.2.1 PC,w8,z9,z10,z11,vD (.lst false ((ts.flatMap (ci g)).map oD)),vO ai q.2.2.2.1 PD])=.rt (.bl true):=by
  show((lA _ _ _).out _ _)=_;rw[E6 (Jf (iB rfl sd) (iB rfl sc) (Ml _)),Ij (iB rfl pc) (iB rfl pd) (iB rfl pa) (by unfold fm;omega) (by unfold fm;omega)];rfl
 unfold qe nA uV Et yE;rw[z1,xZ,z2,xZ,z3,xZ];show ak ((fw (nT (ou Cs) 1 [sD s])).out _ λfs=>(fw (nT (ou Cs) 1 [sD s])).out _ λfs'=>(fw (nT (ou Cs) 1 [sD s])).out _ λf3=>_)=_;rw[nw];show ak ((wN ai (doG (kL Cs Co Cr) ocG) (en fz ns s xs g [vO ai q.1 P0,vO ai q.2.1 P0,vO ai q.2.2.1 P0,none,none,none,none,none,none])).seq _)=_;rw[z5,xZ,z6,xZ,z8,xZ,z9',xZ,z10',xZ,z12,xZ];show ak ((nT (ou Cs) 1 [sD s]).out _ _)=_;rw[nw,R.ok_out];show ak (ao (qL ai (doG (kL Cs Co Cr) ocG) (shG Co)) _ (en fz ns s xs g [vO ai q.1 PA,vO ai q.2.1 PB,vO ai q.2.2.1 PC,y8,z9,z10,z11,vD (.lst false ((ts.flatMap (ci g)).map oD)),vO ai q.2.2.2.1 P0]))=_;rw[gR z14];show ak ((pw ai fb ff (en fz ns s xs g [vO ai q.1 PA,vO ai q.2.1 PB,vO ai q.2.2.1 PC,w8,z9,z10,z11,vD (.lst false ((ts.flatMap (ci g)).map oD)),vO ai q.2.2.2.1 PD])).seq _)=_;rw[z15];rfl
end Q92
namespace Q
open PySem PySem.Spec PyProof.Rows L2
def tm(h:us.length=1):∃a,us=[a]:=by
 match us,h with
 | [a],_=>exact⟨a,rfl⟩
def oq(h:us.length=2):∃a b,us=[a,b]:=by
 match us,h with
 | [a,b],_=>exact⟨a,b,rfl⟩
def A7(h:us.length=3):∃a b c,us=[a,b,c]:=by
 match us,h with
 | [a,b,c],_=>exact⟨a,b,c,rfl⟩
def II(h:us.length=4):∃a b c d,us=[a,b,c,d]:=by
 match us,h with
 | [a,b,c,d],_=>exact⟨a,b,c,d,rfl⟩
def Nl(h:us.length=5):∃a b c d e,us=[a,b,c,d,e]:=by
 match us,h with
 | [a,b,c,d,e],_=>exact⟨a,b,c,d,e,rfl⟩
def HA{K:PySem.W.Frag}{hp:Heap}{mg:Str->Option Value}{bm:List Value}{nid:String}(kin:K.In hp)(gl:hp.Ns mainGlobals mg)(e1:PySem.W.nsIn K mainGlobals x=some (some (.ref C)))(e2:PySem.W.excIn K C bm nid=true):OwnCls x C bm nid mg hp:=by
 constructor;·exact PySem.W.mg_of kin gl e1
 ·unfold PySem.W.excIn at e2;split at e2
  ·rename_i dct kl sls look;split at e2
   ·rename_i C0 more s0 s1 s2 s3 nw s5 hmro hsls;simp only[Bool.and_eq_true,beq_iff_eq,Bool.not_eq_true']at e2;obtain⟨⟨⟨⟨⟨eC,en⟩,edel⟩,etail⟩,ens⟩,einit⟩:=e2;obtain⟨f1,f2,f3,f4,f5,f6,f7,f8,f9,f10,f11⟩:=kl;dsimp only at hmro edel ens einit;have es:sls = #[s0,s1,s2,s3,some (.builtin nw),s5]:=by obtain⟨ls⟩:=sls;simp only at hsls;rw[hsls]
    subst hmro edel es eC en;exact⟨more,f4,f1,f5,f2,f6,f7,f8,f9,f10,dct,s0,s1,s2,s3,s5,_,kin _ _ look,.of_isNs (PySem.W.isNs_of_in kin ens),PySem.W.nsMap_none_of_in kin ens einit,PySem.W.tail_of_in kin etail⟩
   ·cases e2
  ·cases e2
def zm{K:PySem.W.Frag}{hp:Heap}{mg:Str->Option Value}(kin:K.In hp)(gl:hp.Ns mainGlobals mg)(e1:PySem.W.nsIn K mainGlobals x=some (some (.ref C)))(e2:PySem.W.excIn K C [.type "ValueError",.type "Exception",.type "BaseException",.type "object"] "ValueError.__new__"=true):Ref x C mg hp:=
 ⟨_,_,_,_,HA kin gl e1 e2,PySem.F.excBase_ValueError⟩
theorem sN{K:PySem.W.Frag}{G:Hp}:∀ns:List Int,Reps K G (ns.map V.int) (ns.map D.int)
 | []=>.nil
 |i::ns=>.cons (.int i) (sN ns)
noncomputable def CD:List D->R D
 | [.lst _ ds]=>match pB ds with
  |some _=>.ok (.bl true)
  |none=>.no
 |_=>.no
def Oh{l:PySem.W.OpenLaw}{q:Program}{XP:(Str->Option Value)->Heap->Prop}{YP:World->Heap->Prop}{d:DefRec}{K:Params->PySem.W.Frag}{L:Nat}(hL:Room L callerA)(hn:l.most=some 63)(hdf:d.params.defaults=[])(hY:∀(w:World)(h:Heap),YP w h->(K w.params).In h)(F:∀(w:World)(mg:Str->Option Value)(fa:Addr)(h:Heap),(K w.params).In h->h.Ns mainGlobals mg->mg d.name=some (.ref fa)->
 ∃fd:FuncData,(∀(s:Shared)(u:Value),BindsTo s fd ⟨[u],[]⟩ [("_law_script",u)])/\∀base:Heap,(K w.params).In base->base.Ns mainGlobals mg->FnF l.prog w (K w.params) mg base L fa fd ["_law_script"] CD):
  PySem.W.WalkO q loose XP YP l.row.toRowW d [] (λf vs=>PySem.call f vs):=
 L2.zj (n:=63) (k:=L) (x:="_law_script") (CX:=λw=>CXo l.prog w) (sp:=λw vs H Q E=>vs.length=1/\spF (K w.params) CD vs H Q E) hn (by decide) hdf hL hY F
  (λw H a ns hl hO hS=>⟨rfl,H,[.lst true (ns.map .int)],.refl _,.cons (.fls hS (sN ns)) .nil,by
   have e:CD [.lst true (ns.map .int)]=.ok (.bl true):=by simp only[CD,sW]
   rw[e];exact λv G' H' u r=>r.bl_inv⟩)
  λw H s e s' z=>by obtain⟨a,C,H',_,_,z⟩:=z;exact z
def aJ{K:PySem.W.Frag}{mg:Str->Option Value}{kV doc pm ct:Value}(X:K.In h)(G:h.Ns mainGlobals mg)(a:PySem.W.nsIn K mainGlobals x=some (some (.ref f)))(l:K.lookup f=some ⟨oc,od,.func (PySem.W.fnOf x x (eO st) (aZ st) (ah st) .none kV doc pm an cdv ct),osl⟩)(c:PySem.W.codeIn K cdv x=true)(k:PySem.W.keepIn K (.ref f)=true):∃f fd,Fun K x x st f fd/\mg x=some (.ref f):=
 ⟨f,_,zi l c k,PySem.W.mg_of X G a⟩
def eN{K:PySem.W.Frag}{kV doc pm ct:Value}(a:PySem.W.findIn K (.ref C) x=some (some (.ref f)))(i:PySem.W.isFn K (.ref f)=true)(l:K.lookup f=some ⟨oc,od,.func (PySem.W.fnOf x qual (eO st) (aZ st) (ah st) .none kV doc pm an cdv ct),osl⟩)(c:PySem.W.codeIn K cdv qual=true)(k:PySem.W.keepIn K (.ref f)=true):∃f fd,Fun K x qual st f fd/\Meth K C x f:=
 ⟨f,_,zi l c k,⟨a,i,k⟩⟩
def Gk{K:PySem.W.Frag}{kV doc pm ct:Value}(a:PySem.W.findIn K (.ref C) "__init__"=some (some (.ref f)))(i:PySem.W.isFn K (.ref f)=true)(l:K.lookup f=some ⟨oc,od,.func (PySem.W.fnOf "__init__" qual (eO st) (aZ st) (ah st) .none kV doc pm an cdv ct),osl⟩)(c:PySem.W.codeIn K cdv qual=true)(k:PySem.W.keepIn K (.ref f)=true)(mk:PySem.W.makesIn K C=true)(kc:PySem.W.keepIn K (.ref C)=true):
  ∃f fd,Fun K "__init__" qual st f fd/\Mk K C f:=⟨f,_,zi l c k,⟨mk,a,i,kc⟩⟩
def HM{K:PySem.W.Frag}(ne:C≠DC)(pg:PySem.W.plainGet K C Str.empty=true)(hd:PySem.W.hasDictIn K C=true)(po:PySem.W.plainOver K C=true)(sa:PySem.W.findIn K (.ref C) "__setattr__"=some (some (.builtin "object.__setattr__"))):CF K C []:=
 ⟨⟨pg,hd,po,sa⟩,ne,λk hk=>by simp at hk⟩
def AR{K:PySem.W.Frag}(k:Nat)(h:CF K C ks)(hk:k<fnames.length)(e:dg k=x)(n:PySem.W.findIn K (.ref C) x=some none):CF K C (k::ks):=
 ⟨h.cl,h.ne,λj hj=>by
  rcases List.mem_cons.1 hj with rfl|hj;·exact⟨hk,by unfold NoAttr;rw[e];exact n⟩
  ·exact h.na j hj⟩
section
variable{w:World}{K:PySem.W.Frag}{mg:Str->Option Value}{base:Heap}{n:Nat}{G:MF}
def mW(F:Fun K x qual st f fd)(m:Meth K C x f)(ok:FnM P w K mg base k f fd ps C G)(h:∀(kV doc pm:Value)(an:Option Addr)(cdv ct:Value)(us:List Value),us.length=ps.length->bindArgs (PySem.W.fnOf x qual (eO st) (aZ st) (ah st) .none kV doc pm an cdv ct) ⟨us,[]⟩=pure (ps.zip us))(e:ps.length=n+1):MCallee P w K mg base C x k n G:=
 ⟨⟨f,fd,ps,ok,m,F.binds h,e⟩⟩
def Bc{n:Nat}(F:Fun K x x st f fd)(hm:mg x=some (.ref f))(ok:FnM P w K mg base k f fd ps C G)(h:∀(kV doc pm:Value)(an:Option Addr)(cdv ct:Value)(us:List Value),us.length=ps.length->bindArgs (PySem.W.fnOf x x (eO st) (aZ st) (ah st) .none kV doc pm an cdv ct) ⟨us,[]⟩=pure (ps.zip us))(e:ps.length=n+1):CalleeM P w K mg base C x k n G:=
 ⟨f,fd,ps,ok,hm,F.kp,F.binds h,e⟩
def mkc{cn:Str}(F:Fun K x qual st f fd)(m:Mk K C f)(hc:mg cn=some (.ref C))(ne:C≠DC)(ok:FnM P w K mg base k f fd ps C G)(h:∀(kV doc pm:Value)(an:Option Addr)(cdv ct:Value)(us:List Value),us.length=ps.length->bindArgs (PySem.W.fnOf x qual (eO st) (aZ st) (ah st) .none kV doc pm an cdv ct) ⟨us,[]⟩=pure (ps.zip us))(e:ps.length=n+1):MkC P w K mg base C cn k n G:=
 ⟨⟨f,fd,ps,ok,m,hc,F.binds h,e⟩,ne⟩
def CM{cn:Str}(c:MkC P w K mg base C cn k n G)(k':Nat)(h:k<=k':=by decide):MkC P w K mg base C cn k' n G:=by obtain⟨f,fd,ps,M,hm,hg,hb,e⟩:=c.ex;exact⟨⟨f,fd,ps,{ M with run:=λA outer s H args us vs Q E hr=>M.run A outer s H args us vs Q E (hr.mono h) },hm,hg,hb,e⟩,c.ne⟩
end
def Gg{α:Type}{g:α->List D->R D}(h:∀(ns:List Int)(fz:Bool)(q:α),g q [.lst fz (ns.map .int)]=.ok (.bl true)):∀ds:List D,ds.length=1->CD ds=.no\/∀q,g q ds=CD ds:=by
 intro ds hl
 match ds,hl with
 | [d],_=>
  cases d <;> first|exact Or.inl rfl|skip
  rename_i fz ds hl;cases hi:pB ds with
  |none=>exact Or.inl (by simp only[CD,hi])
  |some ns=>have e:=vF hi;subst e;refine Or.inr λq=>?_;rw[h ns fz q];simp only[CD,hi]
def ky{K:PySem.W.Frag}{its:Array Value}{n:Nat}(l:K.lookup a=some ⟨.type "tuple",od,.seq its n,osl⟩)(hz:its.size<=sizeLine)(v:Vals vs its.toList)(r:∀G,Reps K G vs ds):lB K a (.tup ds):=BP l rfl rfl hz v r
def mX{K:PySem.W.Frag}{mg:Str->Option Value}(X:K.In h)(G:h.Ns mainGlobals mg)(e:PySem.W.nsIn K mainGlobals x=some (some (.ref a)))(k:lB K a (.tup ds)):∃a,mg x=some (.ref a)/\lB K a (.tup ds):=
 ⟨a,PySem.W.mg_of X G e,k⟩
end Q
namespace G92
open PySem PySem.Spec PyProof.Rows L2 Q Q92
local macro_rules | `(tactic| walk_at "s") => `(tactic| exact⟨rfl,rfl,rfl,by decide +kernel,rfl,by decide +kernel,by decide +kernel⟩)
local macro_rules | `(tactic| walk_at "1") => `(tactic| (intro _ _ _ _ _ _ us hl;obtain⟨a,z⟩:=tm hl;subst z;rfl))
local macro_rules | `(tactic| walk_at "2") => `(tactic| (intro _ _ _ _ _ _ us hl;obtain⟨a,b,z⟩:=oq hl;subst z;rfl))
local macro_rules | `(tactic| walk_at "3") => `(tactic| (intro _ _ _ _ _ _ us hl;obtain⟨a,b,c,z⟩:=A7 hl;subst z;rfl))
local macro_rules | `(tactic| walk_at "4") => `(tactic| (intro _ _ _ _ _ _ us hl;obtain⟨a,b,c,d,z⟩:=II hl;subst z;rfl))
local macro_rules | `(tactic| walk_at "5") => `(tactic| (intro _ _ _ _ _ _ us hl;obtain⟨a,b,c,d,e,z⟩:=Nl hl;subst z;rfl))
noncomputable abbrev top(i:Nat):Stmt:=PySem.Challenge.pw_screenlines_k92_whole_orders_on_pads.main.body.getD i (.Pass ⟨0,0,0,0⟩)
noncomputable abbrev FUz(K:PySem.W.Frag)(n:Str)(i:Nat):=Fun K n n (top i)
section
variable{w:World}{K:PySem.W.Frag}{mg:Str->Option Value}{base:Heap}
def tQ:FnScope ["_law_script","_law_k"] ["_law_script","_law_k"] (ah (top 65)):=by walk_at "s"
def uU:FnScope ["_law_script","_law_k","_law_many","_law_drawn"] ["_law_script","_law_k","_law_many"] (ah (top 66)):=by walk_at "s"
def xh:FnScope ["_law_script","_law_at","_law_width","_law_made","_law_k","_law_long"] ["_law_script","_law_at","_law_width"] (ah (top 67)):=by walk_at "s"
def pF:FnScope ["_law_script","_law_at","_law_width","_law_many","_law_rows"] ["_law_script","_law_at","_law_width","_law_many"] (ah (top 68)):=by walk_at "s"
def tI:FnScope ["_law_script","_law_at"] ["_law_script","_law_at"] (ah (top 69)):=by walk_at "s"
def uk:FnScope ["_law_script","_law_at","_law_screen_here","_law_made","_law_k","_law_row_here","_law_way","_law_spot"] ["_law_script","_law_at","_law_screen_here"] (ah (top 70)):=by walk_at "s"
def uC:FnScope ["thing"] ["thing"] (ah (top 7)):=by walk_at "s"
def rE:FnScope ["thing","low","high"] ["thing","low","high"] (ah (top 8)):=by walk_at "s"
def vn:FnScope ["thing"] ["thing"] (ah (top 9)):=by walk_at "s"
def lm:FnScope ["thing","width"] ["thing","width"] (ah (top 13)):=by walk_at "s"
def uh:FnScope ["thing","width","many"] ["thing","width","many"] (ah (top 14)):=by walk_at "s"
def qU:FnScope ["thing","width"] ["thing"] (ah (top 15)):=by walk_at "s"
def nK:FnScope ["thing"] ["thing"] (ah (top 16)):=by walk_at "s"
def uY:FnScope ["screen","thing"] ["screen","thing"] (ah (top 17)):=by walk_at "s"
def qI:FnScope ["screen","thing"] ["screen","thing"] (ah (top 18)):=by walk_at "s"
def td:FnScope ["screen","rows","width","missing"] ["screen","rows"] (ah (top 19)):=by walk_at "s"
def pq:FnScope ["order"] ["order"] (ah (top 36)):=by walk_at "s"
def qV:FnScope ["plan"] ["plan"] (ah (top 46)):=by walk_at "s"
def Bp:FnScope ["plans","state","plan"] ["plans","state","plan"] (ah (top 47)):=by walk_at "s"
def BJ(nD:Callee P w K mg base "plan_cost" 1 1 ba)(ok:dc DC (fR ba) 3 F)(Fn:FUz K "offer" 47 f fd):FnM P w K mg base 2 f fd ["plans","state","plan"] DC F:=by refine Fn.okM Bp ok (k:=1) λ_ _ _ _ _ _ hr=>?_;have hu:=hr.units;exact(af (jf (oh (jC (H8 0 hu (ae at1)) (fX (Cm (au nD hr (aa (ae at2) ad)) (au nD hr (aa (rQ 0 hu (ae at1)) ad)))))) (af (IC 0 hu (ae at2) (ae at1)) am) am) am)
def jr:FnScope ["plans","state","plan","order"] ["plans","state","plan","order"] (ah (top 48)):=by walk_at "s"
def jt{I_offer:MF}(du:Callee P w K mg base "order_cost" 2 1 bc)(uE:CalleeM P w K mg base DC "offer" 2 2 I_offer)(ok:dc DC (bq I_offer bc) 4 F)(Fn:FUz K "offer_with_order" 48 f fd):FnM P w K mg base 3 f fd ["plans","state","plan","order"] DC F:=by exact Fn.okM jr ok (k:=2) λ_ _ _ _ _ _ hr=>(af (oB (oE 0 uE hr (aa (ae at1) (aa (cH (aa (aK (aB (ae at2) ag) (au du hr (aa (ae at3) ad))) (aa (aK (aB (ae at2) ag) (cH (aa (ae at3) ad))) ad))) ad)))) am)
def qk:FnScope ["plans","number","column","more"] ["plans","number","column"] (ah (top 49)):=by walk_at "s"
def pC(qR:mg "dict"=none)(aN:mg "ELSEWHERE"=some (.ref a_ELSEWHERE))(bj:lB K a_ELSEWHERE (D.tup [D.bl false,D.bl false]))(dv:mg "HERE"=some (.ref a_HERE))(fM:lB K a_HERE (D.tup [D.bl true,D.bl false]))(aR:mg "HERE_WIPED"=some (.ref a_HERE_WIPED))(bu:lB K a_HERE_WIPED (D.tup [D.bl true,D.bl true]))(aC:mg "ELSEWHERE_WIPED"=some (.ref a_ELSEWHERE_WIPED))(aH:lB K a_ELSEWHERE_WIPED (D.tup [D.bl false,D.bl true]))(bF:CalleeM P w K mg base DC "offer_with_order" 3 3 I_offer_with_order)(hg:∀ds:List D,ds.length=3->gr ds=.no\/∀q,ak (cb I_offer_with_order q (aj 4 ds))=gr ds)(Fn:FUz K "with_moves" 49 f fd):FnF P w K mg base 4 f fd ["plans","number","column"] gr:=by
 have hN:(["plans","number","column","more"]:List Str).Nodup:=by decide
 refine Fn.okA qk (k:=3) (g:=cb I_offer_with_order) hg λcdv A outer s H E hr=>?_;have hu:=hr.units;have h_1:PSF (hU (CXo P w) P w K mg base ["plans","number","column","more"] "with_moves" (ah (top 49)) f cdv A outer s H E) ((aZ (top 49)).getD 1 (.Pass ⟨0,0,0,0⟩)) (dP I_offer_with_order):=(jf (BX 3 hu (aV rfl aN bj)) (af (oB (oE 3 bF hr (aa (aV rfl dv fM) (aa (rQ 3 hu (aV rfl aN bj)) (aa (cH (aa (bh (l:=[103,111]) rfl (by decide)) (aa (ae at1) (aa (ae at2) ad)))) ad))))) am) am)
 have h_2:PSF (hU (CXo P w) P w K mg base ["plans","number","column","more"] "with_moves" (ah (top 49)) f cdv A outer s H E) ((aZ (top 49)).getD 2 (.Pass ⟨0,0,0,0⟩)) (dI I_offer_with_order):=(jf (BX 3 hu (aV rfl dv fM)) (af (oB (oE 3 bF hr (aa (aV rfl aR bu) (aa (rQ 3 hu (aV rfl dv fM)) (aa (cH (aa (bh (l:=[119,105,112,101]) rfl (by decide)) ad)) ad))))) am) am)
 have h_3:PSF (hU (CXo P w) P w K mg base ["plans","number","column","more"] "with_moves" (ah (top 49)) f cdv A outer s H E) ((aZ (top 49)).getD 3 (.Pass ⟨0,0,0,0⟩)) (dJ I_offer_with_order):=(jf (BX 3 hu (aV rfl aC aH)) (af (oB (oE 3 bF hr (aa (aV rfl aR bu) (aa (rQ 3 hu (aV rfl aC aH)) (aa (cH (aa (bh (l:=[103,111]) rfl (by decide)) (aa (ae at1) (aa (ae at2) ad)))) ad))))) am) am)
 have h_4:PSF (hU (CXo P w) P w K mg base ["plans","number","column","more"] "with_moves" (ah (top 49)) f cdv A outer s H E) ((aZ (top 49)).getD 4 (.Pass ⟨0,0,0,0⟩)) (jO I_offer_with_order):=(DR 3)
 exact(CT 3 hN rfl qR (ae at0) (vg (af h_1 (af h_2 (af h_3 (af h_4 am))))))
def lI:FnScope ["plans","old","new","further","state","plan","wiped"] ["plans","old","new"] (ah (top 50)):=by walk_at "s"
def me{I_offer:MF}(bF:CalleeM P w K mg base DC "offer_with_order" 3 3 I_offer_with_order)(uE:CalleeM P w K mg base DC "offer" 3 2 I_offer)(hg:∀ds:List D,ds.length=3->gr ds=.no\/∀q,ak (ca I_offer_with_order I_offer q (aj 7 ds))=gr ds)(Fn:FUz K "stepped_over" 50 f fd):FnF P w K mg base 4 f fd ["plans","old","new"] gr:=by
 have hN:(["plans","old","new","further","state","plan","wiped"]:List Str).Nodup:=by decide
 refine Fn.okA lI (k:=3) (g:=ca I_offer_with_order I_offer) hg λcdv A outer s H E hr=>?_;have hu:=hr.units;have h_1:PSF (hU (CXo P w) P w K mg base ["plans","old","new","further","state","plan","wiped"] "stepped_over" (ah (top 50)) f cdv A outer s H E) ((aZ (top 50)).getD 1 (.Pass ⟨0,0,0,0⟩)) (cE I_offer_with_order I_offer):=(kM PassesOwn.leaving rfl (yO (ae at0)) (kA rfl (bE 4 hN (bE 5 hN iS))) (af (cf at6 hN (aB (ae at4) ag)) (af (jf (HD (aB (ae at4) ag)) (af (oB (oE 3 bF hr (aa (cH (aa nP (aa (ae at6) ad))) (aa (ae at5) (aa (cH (aa (bh (l:=[115,97,121]) rfl (by decide)) (aa (ae at2) ad))) ad))))) am) am) (af (jf (sL hu (Dg (GM (ae at6)) (bh (l:=[32]) rfl (by decide)) (ae at1)) (ae at2)) (af (oB (oE 3 uE hr (aa (cH (aa nP (aa (ae at6) ad))) (aa (ae at5) ad)))) am) am) am))) (hn:=fF _))
 have h_2:PSF (hU (CXo P w) P w K mg base ["plans","old","new","further","state","plan","wiped"] "stepped_over" (ah (top 50)) f cdv A outer s H E) ((aZ (top 50)).getD 2 (.Pass ⟨0,0,0,0⟩)) (eP I_offer_with_order I_offer):=(DR 3)
 exact(E3 3 hN (vg (af h_1 (af h_2 am))))
def C9:FnScope ["plans","number","old","new","begin","current","column"] ["plans","number","old","new","begin"] (ah (top 51)):=by walk_at "s"
def uL:FnScope ["plans","states"] ["plans","states"] (ah (top 52)):=by walk_at "s"
def gY:FnScope ["number","old","new","plans"] ["number","old","new"] (ah (top 53)):=by walk_at "s"
def jX:FnScope ["number","old","new","place","plans","right","left"] ["number","old","new","place"] (ah (top 54)):=by walk_at "s"
def iX:FnScope ["number","old","new","place","plans"] ["number","old","new","place"] (ah (top 55)):=by walk_at "s"
def AB:FnScope ["thing"] ["thing"] (ah (top 25)):=by walk_at "s"
def Du:FnScope ["thing"] ["thing"] (ah (top 26)):=by walk_at "s"
def ul:FnScope ["thing"] ["thing"] (ah (top 27)):=by walk_at "s"
def om:FnScope ["thing"] ["thing"] (ah (top 28)):=by walk_at "s"
def mL:FnScope ["thing","order"] ["thing"] (ah (top 29)):=by walk_at "s"
def kJ:FnScope ["one","other","text"] ["one","other"] (ah (top 38)):=by walk_at "s"
def rz:FnScope ["orders","short","order","both"] ["orders"] (ah (top 39)):=by walk_at "s"
def C5:FnScope ["screen","rows","wanted","own","orders","number","row"] ["screen","rows"] (ah (top 56)):=by walk_at "s"
def uT:FnScope ["_law_screen_here","_law_rows","_law_made"] ["_law_screen_here","_law_rows"] (ah (top 71)):=by walk_at "s"
def Gq:FnScope ["orders"] ["orders"] (ah (top 37)):=by walk_at "s"
def mr:FnScope ["screen","rows","spots","number","row","own"] ["screen","rows"] (ah (top 20)):=by walk_at "s"
def jF:FnScope ["span","spot"] ["span","spot"] (ah (top 62)):=by walk_at "s"
def BQ:FnScope ["screen","rows","found","spot","last"] ["screen","rows"] (ah (top 63)):=by walk_at "s"
def jc:FnScope ["screen","row","column","number","rows"] ["screen","row","column"] (ah (top 30)):=by walk_at "s"
def qY:FnScope ["screen","text","row","begin","end"] ["screen","text"] (ah (top 31)):=by walk_at "s"
def uw:FnScope ["screen","number","column"] ["screen","number","column"] (ah (top 32)):=by walk_at "s"
def pS:FnScope ["screen","row","column"] ["screen"] (ah (top 33)):=by walk_at "s"
def ox:FnScope ["screen","order"] ["screen","order"] (ah (top 34)):=by walk_at "s"
def EK:FnScope ["screen","order"] ["screen","order"] (ah (top 35)):=by walk_at "s"
def rP:FnScope ["self"] ["self"] (ah (bt (top 60) 1)):=by walk_at "s"
def rf(aP:CF K ai [0,1])(ok:dc ai (kh ai) 1 F)(Fn:Fun K "sheet" "Pad.sheet" (bt (top 60) 1) f fd):FnM P w K mg base 1 f fd ["self"] ai F:=by exact Fn.okM rP ok (k:=0) λ_ _ _ _ _ _ hr=>(af (bg (aB (yg 0 0 aP (by decide) (vj ag)) ag)) am)
def qW:FnScope ["self"] ["self"] (ah (bt (top 60) 2)):=by walk_at "s"
def sf(aP:CF K ai [0,1])(ok:dc ai (jQ ai) 1 F)(Fn:Fun K "spent" "Pad.spent" (bt (top 60) 2) f fd):FnM P w K mg base 1 f fd ["self"] ai F:=by exact Fn.okM qW ok (k:=0) λ_ _ _ _ _ _ hr=>(af (bg (aB (yg 0 0 aP (by decide) (vj ag)) ag)) am)
def oe:FnScope ["self","step","screen","price"] ["self","step","screen","price"] (ah (bt (top 60) 3)):=by walk_at "s"
def nY(aP:CF K ai [0,1])(bA:MCallee P w K mg base ai "spent" 1 0 av)(ok:dc ai (iq ai av) 4 F)(Fn:Fun K "step_to" "Pad.step_to" (bt (top 60) 3) f fd):FnM P w K mg base 2 f fd ["self","step","screen","price"] ai F:=by exact Fn.okM oe ok (k:=1) λ_ _ _ _ _ _ hr=>(af (Iw 0 0 aP (by decide) (cH (aa (ae at1) (aa (ae at2) (aa (aK (bW 0 aP bA hr) (ae at3)) ad))))) (af (zd 0 1 aP (by decide) (kK ad)) am))
def Ad:FnScope ["self","order","screen"] ["self","order"] (ah (bt (top 60) 4)):=by walk_at "s"
def Ay{vA:List D->R D}(JH:Callee P w K mg base "done" 6 2 vA)(du:Callee P w K mg base "order_cost" 6 1 bc)(aP:CF K ai [0,1])(cu:MCallee P w K mg base ai "sheet" 6 0 aA)(fV:MCallee P w K mg base ai "step_to" 6 3 bG)(bA:MCallee P w K mg base ai "spent" 6 0 av)(ok:dc ai (oy ai aA bG av vA bc) 3 F)(Fn:Fun K "do" "Pad.do" (bt (top 60) 4) f fd):FnM P w K mg base 7 f fd ["self","order"] ai F:=by
 have hN:(["self","order","screen"]:List Str).Nodup:=by decide
 exact Fn.okM Ad ok (k:=6) λ_ _ _ _ _ _ hr=>(af (cf at2 hN (au JH hr (aa (bW 0 aP cu hr) (aa (ae at1) ad)))) (af (jo 0 aP fV hr (aa (bh (l:=[100,111]) rfl (by decide)) (aa (ae at2) (aa (au du hr (aa (ae at1) ad)) ad)))) (af (Ei (bW 0 aP bA hr)) am)))
def pG:FnScope ["screen","rows"] ["screen","rows"] (ah (top 57)):=by walk_at "s"
def si:FnScope ["self","rows","screen","price"] ["self","rows"] (ah (bt (top 60) 6)):=by walk_at "s"
def sC{eZ:List D->R D}(bB:mg "tuple"=none)(sg:Callee P w K mg base "least_cost" 9 2 eZ)(ef:Callee P w K mg base "full_rows" 9 2 aI)(aP:CF K ai [0,1])(cu:MCallee P w K mg base ai "sheet" 9 0 aA)(fV:MCallee P w K mg base ai "step_to" 9 3 bG)(ok:dc ai (jH ai aA bG eZ aI) 4 F)(Fn:Fun K "bring" "Pad.bring" (bt (top 60) 6) f fd):FnM P w K mg base 10 f fd ["self","rows"] ai F:=by
 have hN:(["self","rows","screen","price"]:List Str).Nodup:=by decide
 exact Fn.okM si ok (k:=9) λ_ _ _ _ _ _ hr=>(af (cf at2 hN (bW 0 aP cu hr)) (af (cf at3 hN (au sg hr (aa (ae at2) (aa (ae at1) ad)))) (af (jo 0 aP fV hr (aa (bh (l:=[98,114,105,110,103]) rfl (by decide)) (aa (cH (aa (aB (ae at2) ag) (aa (mO rfl bB (aa (au ef hr (aa (ae at2) (aa (ae at1) ad))) ad)) (aa (aB (ae at2) ag) ad)))) (aa (ae at3) ad)))) (af (Ei (ae at3)) am))))
def tJ:FnScope ["self","screen"] ["self","screen"] (ah (bt (top 60) 0)):=by walk_at "s"
def tM{DZ:Tok}(lL:mg "MADE"=some (.str "made" DZ))(cJ:Callee P w K mg base "check_screen" 5 1 aG)(aP:CF K ai [0,1])(ok:dc ai (lg ai aG) 2 F)(Fn:Fun K "__init__" "Pad.__init__" (bt (top 60) 0) f fd):FnM P w K mg base 6 f fd ["self","screen"] ai F:=by exact Fn.okM tJ ok (k:=5) λ_ _ _ _ _ _ hr=>(af (jY (au cJ hr (aa (ae at1) ad))) (af (zd 0 0 aP (by decide) (kK (aa (cH (aa (Bm (l:=[109,97,100,101]) rfl lL rfl (by decide)) (aa (ae at1) (aa ag ad)))) ad))) (af (zd 0 1 aP (by decide) (kK ad)) am)))
def IJ:FnScope ["_law_script","_law_screen_here","_law_goal_here","_law_new","_law_orders","_law_pad","_law_other","_law_third","_law_order","_law_row_here","_law_column","_law_many","_law_rows","_law_short"] ["_law_script"] (ah (top 72)):=by walk_at "s"
def Hz{aQ ck dS:MF}{cD cA:List D->R D}{cr dF:List D->R D}(vf:Callee P w K mg base "_law_some" 10 2 cD)(tz:Callee P w K mg base "_law_goal" 10 3 cA)(vm:Callee P w K mg base "least" 10 2 de)(tT:Callee P w K mg base "_law_full" 10 2 cr)(Ai:Callee P w K mg base "cost" 10 1 fG)(zX:Callee P w K mg base "spans" 10 2 dF)(jp:Callee P w K mg base "shortened" 10 1 aL)(aP:CF K ai [0,1])(jS:MCallee P w K mg base ai "do" 10 1 aQ)(cu:MCallee P w K mg base ai "sheet" 10 0 aA)(bA:MCallee P w K mg base ai "spent" 10 0 av)(uv:MCallee P w K mg base ai "bring" 10 1 ck)(DV:MkC P w K mg base ai "Pad" 9 1 dS)(hg:∀ds:List D,ds.length=1->gr ds=.no\/∀q,ak (qe ai aQ aA av ck dS cD cA de cr fG dF aL q (aj 14 ds))=gr ds)(Fn:FUz K "law" 72 f fd):FnF P w K mg base 11 f fd ["_law_script"] gr:=by
 have hN:(["_law_script","_law_screen_here","_law_goal_here","_law_new","_law_orders","_law_pad","_law_other","_law_third","_law_order","_law_row_here","_law_column","_law_many","_law_rows","_law_short"]:List Str).Nodup:=by decide
 refine Fn.okA IJ (k:=10) (g:=qe ai aQ aA av ck dS cD cA de cr fG dF aL) hg λcdv A outer s H E hr=>?_;have hu:=hr.units;have h_0:PSF (hU (CXo P w) P w K mg base ["_law_script","_law_screen_here","_law_goal_here","_law_new","_law_orders","_law_pad","_law_other","_law_third","_law_order","_law_row_here","_law_column","_law_many","_law_rows","_law_short"] "law" (ah (top 72)) f cdv A outer s H E) ((aZ (top 72)).getD 0 (.Pass ⟨0,0,0,0⟩)) (yY cD):=(cf at1 hN (au vf hr (aa (ae at0) (aa ag ad))))
 have h_1:PSF (hU (CXo P w) P w K mg base ["_law_script","_law_screen_here","_law_goal_here","_law_new","_law_orders","_law_pad","_law_other","_law_third","_law_order","_law_row_here","_law_column","_law_many","_law_rows","_law_short"] "law" (ah (top 72)) f cdv A outer s H E) ((aZ (top 72)).getD 1 (.Pass ⟨0,0,0,0⟩)) (zp cA):=(cf at2 hN (au tz hr (aa (ae at0) (aa ag (aa (ae at1) ad)))))
 have h_2:PSF (hU (CXo P w) P w K mg base ["_law_script","_law_screen_here","_law_goal_here","_law_new","_law_orders","_law_pad","_law_other","_law_third","_law_order","_law_row_here","_law_column","_law_many","_law_rows","_law_short"] "law" (ah (top 72)) f cdv A outer s H E) ((aZ (top 72)).getD 2 (.Pass ⟨0,0,0,0⟩)) (ww de cr):=(K5 3 4 rfl hN (aa (au tT hr (aa (ae at1) (aa (ae at2) ad))) (aa (au vm hr (aa (ae at1) (aa (ae at2) ad))) ad)))
 have h_4:PSF (hU (CXo P w) P w K mg base ["_law_script","_law_screen_here","_law_goal_here","_law_new","_law_orders","_law_pad","_law_other","_law_third","_law_order","_law_row_here","_law_column","_law_many","_law_rows","_law_short"] "law" (ah (top 72)) f cdv A outer s H E) ((aZ (top 72)).getD 4 (.Pass ⟨0,0,0,0⟩)) (wN ai aQ):=(kM PassesOwn.leaving rfl (fc (ae at4)) (di 8 hN) (af (jo 5 aP jS hr (aa (ae at8) ad)) am))
 have h_5:PSF (hU (CXo P w) P w K mg base ["_law_script","_law_screen_here","_law_goal_here","_law_new","_law_orders","_law_pad","_law_other","_law_third","_law_order","_law_row_here","_law_column","_law_many","_law_rows","_law_short"] "law" (ah (top 72)) f cdv A outer s H E) ((aZ (top 72)).getD 5 (.Pass ⟨0,0,0,0⟩)) (yK ai aA av ck fG):=(Ms (HB (D0 (Hs (ml hu (aB (bW 5 aP cu hr) ag) (ae at3))) (D0 (HR hu (bW 5 aP bA hr) (J1 6 aP uv hr (aa (ae at2) ad))) (FE (Hs (ml hu (bW 5 aP bA hr) (au Ai hr (aa (ae at4) ad)))))))) (af (bg nP) am) am)
 have h_6:PSF (hU (CXo P w) P w K mg base ["_law_script","_law_screen_here","_law_goal_here","_law_new","_law_orders","_law_pad","_law_other","_law_third","_law_order","_law_row_here","_law_column","_law_many","_law_rows","_law_short"] "law" (ah (top 72)) f cdv A outer s H E) ((aZ (top 72)).getD 6 (.Pass ⟨0,0,0,0⟩)) (yi ai aQ dF):=(kM PassesOwn.leaving rfl (fc (au zX hr (aa (ae at1) (aa (ae at2) ad)))) (kA rfl (bE 9 hN (bE 10 hN (bE 11 hN iS)))) (af (jo 7 aP jS hr (aa (cH (aa (bh (l:=[103,111]) rfl (by decide)) (aa (ae at9) (aa (ae DY) ad)))) ad)) (af (jo 7 aP jS hr (aa (cH (aa (bh (l:=[103,111]) rfl (by decide)) (aa (ae at9) (aa (ae DY) ad)))) ad)) (af (jo 7 aP jS hr (aa (cH (aa (bh (l:=[115,97,121]) rfl (by decide)) (aa (cG (aB (ae at3) (ae at9)) (eB (ae DY)) (eB (aK (ae DY) (ae M0)))) ad))) ad)) am))) (hn:=fF _))
 have h_7:PSF (hU (CXo P w) P w K mg base ["_law_script","_law_screen_here","_law_goal_here","_law_new","_law_orders","_law_pad","_law_other","_law_third","_law_order","_law_row_here","_law_column","_law_many","_law_rows","_law_short"] "law" (ah (top 72)) f cdv A outer s H E) ((aZ (top 72)).getD 7 (.Pass ⟨0,0,0,0⟩)) (AE ai aA av):=(jf (oh (jC (ml hu (aB (bW 7 aP cu hr) ag) (ae at3)) (fX (Cm (bW 7 aP bA hr) (bW 5 aP bA hr))))) (af (bg nP) am) am)
 have h_8:PSF (hU (CXo P w) P w K mg base ["_law_script","_law_screen_here","_law_goal_here","_law_new","_law_orders","_law_pad","_law_other","_law_third","_law_order","_law_row_here","_law_column","_law_many","_law_rows","_law_short"] "law" (ah (top 72)) f cdv A outer s H E) ((aZ (top 72)).getD 8 (.Pass ⟨0,0,0,0⟩)) (uM):=(xP 12 hN (kK ad))
 have h_9:PSF (hU (CXo P w) P w K mg base ["_law_script","_law_screen_here","_law_goal_here","_law_new","_law_orders","_law_pad","_law_other","_law_third","_law_order","_law_row_here","_law_column","_law_many","_law_rows","_law_short"] "law" (ah (top 72)) f cdv A outer s H E) ((aZ (top 72)).getD 9 (.Pass ⟨0,0,0,0⟩)) (uy dF):=(kM PassesOwn.leaving rfl (fc (au zX hr (aa (ae at1) (aa (ae at2) ad)))) (kA rfl (bE 9 hN (bE 10 hN (bE 11 hN iS)))) (af (wL 12 (rH (kK (aa (cH (aa (bh (l:=[103,111]) rfl (by decide)) (aa (ae at9) (aa (ae DY) ad)))) (aa (cH (aa (bh (l:=[103,111]) rfl (by decide)) (aa (ae at9) (aa (ae DY) ad)))) (aa (cH (aa (bh (l:=[115,97,121]) rfl (by decide)) (aa (cG (aB (ae at3) (ae at9)) (eB (ae DY)) (eB (aK (ae DY) (ae M0)))) ad))) ad)))))) am) (hn:=fF _))
 have h_11:PSF (hU (CXo P w) P w K mg base ["_law_script","_law_screen_here","_law_goal_here","_law_new","_law_orders","_law_pad","_law_other","_law_third","_law_order","_law_row_here","_law_column","_law_many","_law_rows","_law_short"] "law" (ah (top 72)) f cdv A outer s H E) ((aZ (top 72)).getD 11 (.Pass ⟨0,0,0,0⟩)) (qL ai aQ aL):=(kM PassesOwn.leaving rfl (fc (au jp hr (aa (ae N9) ad))) (di 8 hN) (af (jo 13 aP jS hr (aa (ae at8) ad)) am))
 have h_12:PSF (hU (CXo P w) P w K mg base ["_law_script","_law_screen_here","_law_goal_here","_law_new","_law_orders","_law_pad","_law_other","_law_third","_law_order","_law_row_here","_law_column","_law_many","_law_rows","_law_short"] "law" (ah (top 72)) f cdv A outer s H E) ((aZ (top 72)).getD 12 (.Pass ⟨0,0,0,0⟩)) (pw ai aA av):=(bg (gN (vh hu (bW 13 aP cu hr) (bW 7 aP cu hr)) (ic (GK (bW 7 aP bA hr) (bW 13 aP bA hr) (bW 5 aP bA hr)))))
 exact(gF h_0 (gF h_1 (gF h_2 (B3 5 6 7 DV hr rfl hN (aa (ae at1) ad) (aa (ae at1) ad) (aa (ae at1) ad) (gF h_4 (gF h_5 (gF h_6 (gF h_7 (gF h_8 (gF h_9 (JX 13 DV hr hN (aa (ae at1) ad) (vg (uP 12 (af h_11 (af h_12 am)))))))))))))))
end
def Kj{w:World}{K:PySem.W.Frag}{mg:Str->Option Value}{fa:Addr}(hfa:mg "law"=some (.ref fa))(md:mg "all"=none)(rX:mg "bool"=none)(qR:mg "dict"=none)(bx:mg "enumerate"=none)(uH:mg "int"=none)(ar:mg "isinstance"=none)(bd:mg "len"=none)(ir:mg "list"=none)(rD:mg "min"=none)(cZ:mg "range"=none)(Aw:mg "str"=none)(A6:mg "sum"=none)(bB:mg "tuple"=none)(aN:∃a,mg "ELSEWHERE"=some (.ref a)/\lB K a (D.tup [D.bl false,D.bl false]))(aC:∃a,mg "ELSEWHERE_WIPED"=some (.ref a)/\lB K a (D.tup [D.bl false,D.bl true]))(eT:∃t,mg "GO_COST"=some (.int 2 t))(dv:∃a,mg "HERE"=some (.ref a)/\lB K a (D.tup [D.bl true,D.bl false]))(aR:∃a,mg "HERE_WIPED"=some (.ref a)/\lB K a (D.tup [D.bl true,D.bl true]))(lL:∃t,mg "MADE"=some (.str "made" t))(bO:∃t,mg "MOST_ROWS"=some (.int 12 t))(bL:∃t,mg "MOST_SAID"=some (.int 40 t))(bv:∃t,mg "MOST_WIDTH"=some (.int 40 t))(bz:∃a,mg "NO_ORDERS"=some (.ref a)/\lB K a (D.tup [D.int 0,D.tup []]))(cN:∃t,mg "WIPE_COST"=some (.int 1 t))(my:PySem.W.nsIn K mainGlobals "NoOrder"=some (some (.ref bH)))(mC:PySem.W.excIn K bH [.type "ValueError",.type "Exception",.type "BaseException",.type "object"] "ValueError.__new__"=true)(pK:PySem.W.nsIn K mainGlobals "NoRoom"=some (some (.ref cM)))(qc:PySem.W.excIn K cM [.type "ValueError",.type "Exception",.type "BaseException",.type "object"] "ValueError.__new__"=true)(ko:PySem.W.nsIn K mainGlobals "NoScreen"=some (some (.ref bC)))(kH:PySem.W.excIn K bC [.type "ValueError",.type "Exception",.type "BaseException",.type "object"] "ValueError.__new__"=true)(Fg:PySem.W.nsIn K mainGlobals "Pad"=some (some (.ref ai)))(aP:CF K ai [0,1])(h65:∃f fd,FUz K "_law_cell" 65 f fd/\mg "_law_cell"=some (.ref f))(h66:∃f fd,FUz K "_law_pick" 66 f fd/\mg "_law_pick"=some (.ref f))(h67:∃f fd,FUz K "_law_row" 67 f fd/\mg "_law_row"=some (.ref f))(h68:∃f fd,FUz K "_law_screen" 68 f fd/\mg "_law_screen"=some (.ref f))(h69:∃f fd,FUz K "_law_some" 69 f fd/\mg "_law_some"=some (.ref f))(h70:∃f fd,FUz K "_law_goal" 70 f fd/\mg "_law_goal"=some (.ref f))(h7:∃f fd,FUz K "is_whole" 7 f fd/\mg "is_whole"=some (.ref f))(h8:∃f fd,FUz K "is_within" 8 f fd/\mg "is_within"=some (.ref f))(h9:∃f fd,FUz K "is_plain" 9 f fd/\mg "is_plain"=some (.ref f))(h13:∃f fd,FUz K "are_full_rows" 13 f fd/\mg "are_full_rows"=some (.ref f))(h14:∃f fd,FUz K "is_place" 14 f fd/\mg "is_place"=some (.ref f))(h15:∃f fd,FUz K "is_screen" 15 f fd/\mg "is_screen"=some (.ref f))(h16:∃f fd,FUz K "check_screen" 16 f fd/\mg "check_screen"=some (.ref f))(h17:∃f fd,FUz K "are_rows" 17 f fd/\mg "are_rows"=some (.ref f))(h18:∃f fd,FUz K "check_rows" 18 f fd/\mg "check_rows"=some (.ref f))(h19:∃f fd,FUz K "full_rows" 19 f fd/\mg "full_rows"=some (.ref f))(h36:∃f fd,FUz K "order_cost" 36 f fd/\mg "order_cost"=some (.ref f))(h46:∃f fd,FUz K "plan_cost" 46 f fd/\mg "plan_cost"=some (.ref f))(h47:∃f fd,FUz K "offer" 47 f fd/\mg "offer"=some (.ref f))(h48:∃f fd,FUz K "offer_with_order" 48 f fd/\mg "offer_with_order"=some (.ref f))(h49:∃f fd,FUz K "with_moves" 49 f fd/\mg "with_moves"=some (.ref f))(h50:∃f fd,FUz K "stepped_over" 50 f fd/\mg "stepped_over"=some (.ref f))(h51:∃f fd,FUz K "swept" 51 f fd/\mg "swept"=some (.ref f))(h52:∃f fd,FUz K "cheapest" 52 f fd/\mg "cheapest"=some (.ref f))(h53:∃f fd,FUz K "plan_from_elsewhere" 53 f fd/\mg "plan_from_elsewhere"=some (.ref f))(h54:∃f fd,FUz K "plan_from_place" 54 f fd/\mg "plan_from_place"=some (.ref f))(h55:∃f fd,FUz K "row_of_place_plan" 55 f fd/\mg "row_of_place_plan"=some (.ref f))(h25:∃f fd,FUz K "is_say" 25 f fd/\mg "is_say"=some (.ref f))(h26:∃f fd,FUz K "is_go" 26 f fd/\mg "is_go"=some (.ref f))(h27:∃f fd,FUz K "is_order" 27 f fd/\mg "is_order"=some (.ref f))(h28:∃f fd,FUz K "check_order" 28 f fd/\mg "check_order"=some (.ref f))(h29:∃f fd,FUz K "check_orders" 29 f fd/\mg "check_orders"=some (.ref f))(h38:∃f fd,FUz K "joined_or_none" 38 f fd/\mg "joined_or_none"=some (.ref f))(h39:∃f fd,FUz K "shortened" 39 f fd/\mg "shortened"=some (.ref f))(h56:∃f fd,FUz K "least" 56 f fd/\mg "least"=some (.ref f))(h71:∃f fd,FUz K "_law_full" 71 f fd/\mg "_law_full"=some (.ref f))(h37:∃f fd,FUz K "cost" 37 f fd/\mg "cost"=some (.ref f))(h20:∃f fd,FUz K "unlike_spots" 20 f fd/\mg "unlike_spots"=some (.ref f))(h62:∃f fd,FUz K "is_right_behind" 62 f fd/\mg "is_right_behind"=some (.ref f))(h63:∃f fd,FUz K "spans" 63 f fd/\mg "spans"=some (.ref f))(h30:∃f fd,FUz K "with_row_at_place" 30 f fd/\mg "with_row_at_place"=some (.ref f))(h31:∃f fd,FUz K "after_say" 31 f fd/\mg "after_say"=some (.ref f))(h32:∃f fd,FUz K "after_go" 32 f fd/\mg "after_go"=some (.ref f))(h33:∃f fd,FUz K "after_wipe" 33 f fd/\mg "after_wipe"=some (.ref f))(h34:∃f fd,FUz K "after_order" 34 f fd/\mg "after_order"=some (.ref f))(h35:∃f fd,FUz K "done" 35 f fd/\mg "done"=some (.ref f))(h60_1:∃f fd,Fun K "sheet" "Pad.sheet" (bt (top 60) 1) f fd/\Meth K ai "sheet" f)(h60_2:∃f fd,Fun K "spent" "Pad.spent" (bt (top 60) 2) f fd/\Meth K ai "spent" f)(h60_3:∃f fd,Fun K "step_to" "Pad.step_to" (bt (top 60) 3) f fd/\Meth K ai "step_to" f)(h60_4:∃f fd,Fun K "do" "Pad.do" (bt (top 60) 4) f fd/\Meth K ai "do" f)(h57:∃f fd,FUz K "least_cost" 57 f fd/\mg "least_cost"=some (.ref f))(h60_6:∃f fd,Fun K "bring" "Pad.bring" (bt (top 60) 6) f fd/\Meth K ai "bring" f)(h60_0:∃f fd,Fun K "__init__" "Pad.__init__" (bt (top 60) 0) f fd/\Mk K ai f)(h72:∃f fd,FUz K "law" 72 f fd/\mg "law"=some (.ref f)):
  ∃fd:FuncData,(∀(s:Shared)(u:Value),BindsTo s fd ⟨[u],[]⟩ [("_law_script",u)])/\∀base:Heap,K.In base->base.Ns mainGlobals mg->FnF P w K mg base 11 fa fd ["_law_script"] CD:=by
 obtain⟨a_ELSEWHERE,aN,bj⟩:=aN;obtain⟨a_ELSEWHERE_WIPED,aC,aH⟩:=aC;obtain⟨sv,eT⟩:=eT;obtain⟨a_HERE,dv,fM⟩:=dv;obtain⟨a_HERE_WIPED,aR,bu⟩:=aR;obtain⟨DZ,lL⟩:=lL;obtain⟨gD,bO⟩:=bO;obtain⟨gE,bL⟩:=bL;obtain⟨eY,bv⟩:=bv;obtain⟨a_NO_ORDERS,bz,cO⟩:=bz;obtain⟨mG,cN⟩:=cN;obtain⟨f65,d65,F65⟩:=h65;obtain⟨f66,d66,F66⟩:=h66;obtain⟨f67,d67,F67⟩:=h67;obtain⟨f68,d68,F68⟩:=h68;obtain⟨f69,d69,F69⟩:=h69;obtain⟨f70,d70,F70⟩:=h70;obtain⟨f7,d7,F7⟩:=h7;obtain⟨f8,d8,F8⟩:=h8;obtain⟨f9,d9,F9⟩:=h9;obtain⟨f13,d13,F13⟩:=h13;obtain⟨f14,d14,F14⟩:=h14;obtain⟨f15,d15,F15⟩:=h15;obtain⟨f16,d16,F16⟩:=h16;obtain⟨f17,d17,F17⟩:=h17;obtain⟨f18,d18,F18⟩:=h18;obtain⟨f19,d19,F19⟩:=h19;obtain⟨f36,d36,F36⟩:=h36;obtain⟨f46,d46,F46⟩:=h46;obtain⟨f47,d47,F47⟩:=h47;obtain⟨f48,d48,F48⟩:=h48;obtain⟨f49,d49,F49⟩:=h49;obtain⟨f50,d50,F50⟩:=h50;obtain⟨f51,d51,F51⟩:=h51;obtain⟨f52,d52,F52⟩:=h52;obtain⟨f53,d53,F53⟩:=h53;obtain⟨f54,d54,F54⟩:=h54;obtain⟨f55,d55,F55⟩:=h55;obtain⟨f25,d25,F25⟩:=h25;obtain⟨f26,d26,F26⟩:=h26;obtain⟨f27,d27,F27⟩:=h27;obtain⟨f28,d28,F28⟩:=h28;obtain⟨f29,d29,F29⟩:=h29;obtain⟨f38,d38,F38⟩:=h38;obtain⟨f39,d39,F39⟩:=h39;obtain⟨f56,d56,F56⟩:=h56;obtain⟨f71,d71,F71⟩:=h71;obtain⟨f37,d37,F37⟩:=h37;obtain⟨f20,d20,F20⟩:=h20;obtain⟨f62,d62,F62⟩:=h62;obtain⟨f63,d63,F63⟩:=h63;obtain⟨f30,d30,F30⟩:=h30;obtain⟨f31,d31,F31⟩:=h31;obtain⟨f32,d32,F32⟩:=h32;obtain⟨f33,d33,F33⟩:=h33;obtain⟨f34,d34,F34⟩:=h34;obtain⟨f35,d35,F35⟩:=h35;obtain⟨f60_1,d60_1,F60_1⟩:=h60_1;obtain⟨f60_2,d60_2,F60_2⟩:=h60_2;obtain⟨f60_3,d60_3,F60_3⟩:=h60_3;obtain⟨f60_4,d60_4,F60_4⟩:=h60_4;obtain⟨f57,d57,F57⟩:=h57;obtain⟨f60_6,d60_6,F60_6⟩:=h60_6;obtain⟨f60_0,d60_0,F60_0⟩:=h60_0;obtain⟨f72,d72,F72⟩:=h72;have e:fa=f72:=by have:=hfa.symm.trans F72.2;injection this with this;injection this
 subst e;refine⟨d72,λs u=>?_,λbase kb nb=>?_⟩;·obtain⟨oc,od,kV,doc,pm,an,cdv,ct,osl,rfl,lk,hcd⟩:=F72.1.ex;exact .of_eq rfl
 ·have fT:=zm (x:="NoOrder") kb nb my mC;have iV:=zm (x:="NoRoom") kb nb pK qc;have dR:=zm (x:="NoScreen") kb nb ko kH;have Iy:=PySem.W.mg_of kb nb Fg;have k65:=F65.1.callee F65.2 ((F65.1.okF (P:=P) (w:=w) (base:=base) tQ (k:=0) (g:=dn) λ_ _ _ _ _ _ hr=>(af (jf (Cm (ae at1) (dw rfl bd (aa (ae at0) ad))) (af (bg (aB (ae at0) (ae at1))) am) am) (af (jf (sL hr.units (ae at0) (rH (kK ad))) (af (bg ag) am) am) (af (bg (aK (eE (aB (ae at0) (wl (ae at1) (dw rfl bd (aa (ae at0) ad)))) ag) (ae at1))) am)))).to (tfr (F:=CG))) (by walk_at "2");have k66:=F66.1.callee F66.2 ((F66.1.okF uU (k:=1) (g:=dm _) λ_ _ _ _ _ _ hr=>(af (cf at3 uU.nd (wl (eE (aK (au k65 hr (aa (ae at0) (aa (ae at1) ad))) (eE ag (aK (ae at1) ag))) ag) ag)) (af (bg (wl (wl (aK (eE (ae at3) (ae at3)) (GP (ae at3) ag)) ag) (ae at2))) am))).to (tfr (F:=fu))) (by walk_at "3");have k67:=F67.1.callee F67.2 ((F67.1.okF xh (k:=2) (g:=jv _) λ_ _ _ _ _ _ hr=>(af (cf at3 xh.nd (bh (l:=[]) rfl (by decide))) (af (kM PassesOwn.leaving rfl (qC rfl cZ (aa (ae at2) ad)) (di 4 xh.nd) (af (cf at3 xh.nd (aK (ae at3) (aB (bh (l:=[32,32,97,98,35]) rfl (by decide)) (au k66 hr (aa (ae at0) (aa (aK (aK (ae at1) ag) (ae at4)) (aa ag ad))))))) am)) (af (cf at5 xh.nd (au k66 hr (aa (ae at0) (aa (ae at1) (aa (aK (ae at2) ag) ad))))) (af (bg (Dg (sL hr.units (au k66 hr (aa (ae at0) (aa (aK (ae at1) ag) (aa ag ad)))) ag) (ae at3) (aK (cG (ae at3) da (eB (ae at5))) (eE (bh (l:=[32]) rfl (by decide)) (mq (ae at2) (ae at5)))))) am))))).to (tfr (F:=DI))) (by walk_at "3");have k66m3:=k66.mono 3;have k68:=F68.1.callee F68.2 ((F68.1.okF pF (k:=3) (g:=fy _ _) λ_ _ _ _ _ _ hr=>(af (cf at4 pF.nd (mO rfl bB (aa (kZ (eW (N':=["_law_k","_law_script","_law_at","_law_width"]) (ix:=[0,1,2]) gz rfl (qC rfl cZ (aa (ae at3) ad)) (λC s₂ H₂ fp=>(au k67 hr (aa (bZ at1) (aa (aK (bZ at2) (eE ag (bZ at0))) (aa (bZ at3) ad))))) (λC s₂ H₂ fp=>jA))) ad))) (af (bg (cH (aa (ae at2) (aa (ae at4) (aa (cH (aa (au k66m3 hr (aa (ae at0) (aa (aK (ae at1) ag) (aa (ae at3) ad)))) (aa (au k66m3 hr (aa (ae at0) (aa (aK (ae at1) ag) (aa (aK (ae at2) ag) ad)))) ad))) ad))))) am))).to (tfr (F:=BZ))) (by walk_at "4");have k66m4:=k66.mono 4;have k69:=F69.1.callee F69.2 ((F69.1.okF tI (k:=4) (g:=hW _ _) λ_ _ _ _ _ _ hr=>(af (bg (au k68 hr (aa (ae at0) (aa (aK (ae at1) ag) (aa (aK ag (au k66m4 hr (aa (ae at0) (aa (ae at1) (aa ag ad))))) (aa (aK ag (au k66m4 hr (aa (ae at0) (aa (aK (ae at1) ag) (aa ag ad))))) ad)))))) am)).to (tfr (F:=xF))) (by walk_at "2");have k70:=F70.1.callee F70.2 ((F70.1.okF uk (k:=3) (g:=im _ _) λ_ _ _ _ _ _ hr=>(af (xP 3 uk.nd (kK ad)) (af (kM PassesOwn.leaving rfl (uN rfl bx (aB (ae at2) ag)) (kA rfl (bE 4 uk.nd (bE 5 uk.nd iS))) (af (cf at6 uk.nd (au k66m3 hr (aa (ae at0) (aa (aK (ae at1) (eE ag (ae at4))) (aa ag ad))))) (af (jf (sL hr.units (ae at6) ag) (af (cf at5 uk.nd (au k67 hr (aa (ae at0) (aa (aK (aK (ae at1) (eE ag (ae at4))) ag) (aa (aB (ae at2) ag) ad))))) am) (af (jf (Cm (ae at6) ag) (af (cf at7 uk.nd (au k66m3 hr (aa (ae at0) (aa (aK (aK (ae at1) (eE ag (ae at4))) ag) (aa (aB (ae at2) ag) ad))))) (af (cf at5 uk.nd (aK (aK (cG (ae at5) da (eB (ae at7))) (aB (bh (l:=[97,98,32,35]) rfl (by decide)) (au k66m3 hr (aa (ae at0) (aa (aK (aK (ae at1) (eE ag (ae at4))) ag) (aa ag ad)))))) (cG (ae at5) (eB (aK (ae at7) ag)) da))) am)) am) am)) (af (qG 3 (Db (ae at5) (aa (bh (l:=[32]) rfl (by decide)) ad))) am))) (hn:=fF _)) (uP 3 (af (bg (cG (ae at3) da (eB (mq (dw rfl bd (aa (ae at3) ad)) (au k66m3 hr (aa (ae at0) (aa (aK (ae at1) ag) (aa ag ad)))))))) am))))).to (tfr (F:=He))) (by walk_at "3");have k7:=F7.1.callee F7.2 ((F7.1.okF (P:=P) (w:=w) (base:=base) uC (k:=0) (g:=hZ) λ_ _ _ _ _ _ hr=>(af (bg (gN (Fk ar (ae at0) uH) (ic (Ho (BD ar (ae at0) rX))))) am)).to uZ) (by walk_at "1");have k8:=F8.1.callee F8.2 ((F8.1.okF rE (k:=1) (g:=fW _) λ_ _ _ _ _ _ hr=>(af (bg (gN (au k7 hr (aa (ae at0) ad)) (ic (uS (ae at1) (ae at0) (ae at2))))) am)).to qS) (by walk_at "3");have k9:=F9.1.callee F9.2 ((F9.1.okF (P:=P) (w:=w) (base:=base) vn (k:=0) (g:=iu) λ_ _ _ _ _ _ hr=>(af (bg (gN (Fe ar (ae at0) Aw) (ic (FQ rfl rfl md (aa (kZ (eW (N':=["sign"]) (ix:=[]) gz rfl (fc (ae at0)) (λC s₂ H₂ fp=>(uS (bh (l:=[32]) rfl (by decide)) (bZ at0) (bh (l:=[126]) rfl (by decide)))) (λC s₂ H₂ fp=>jA))) ad))))) am)).to ud) (by walk_at "1");have k13:=F13.1.callee F13.2 ((F13.1.okF lm (k:=1) (g:=df _) λ_ _ _ _ _ _ hr=>(af (jf (oh (jC (gO (gT (jZ ar (ae at0) bB))) (fX (gO (GG ag (dw rfl bd (aa (ae at0) ad)) (fj rfl bO)))))) (af (bg nP) am) am) (af (bg (FQ rfl rfl md (aa (kZ (eW (N':=["row","width"]) (ix:=[1]) gz rfl (fc (ae at0)) (λC s₂ H₂ fp=>(gN (au k9 hr (aa (bZ at0) ad)) (ic (vh hr.units (dw rfl bd (aa (bZ at0) ad)) (bZ at1))))) (λC s₂ H₂ fp=>jA))) ad))) am))).to lr) (by walk_at "2");have k14:=F14.1.callee F14.2 ((F14.1.okF uh (k:=2) (g:=ig _) λ_ _ _ _ _ _ hr=>(af (jf (oh (jC (gO (gT (jZ ar (ae at0) bB))) (fX (ml hr.units (dw rfl bd (aa (ae at0) ad)) ag)))) (af (bg nP) am) am) (af (bg (gN (au k8 hr (aa (aB (ae at0) ag) (aa ag (aa (mq (ae at2) ag) ad)))) (ic (au k8 hr (aa (aB (ae at0) ag) (aa ag (aa (ae at1) ad))))))) am))).to vo) (by walk_at "3");have k8m3:=k8.mono 3;have k13m3:=k13.mono 3;have k15:=F15.1.callee F15.2 ((F15.1.okF qU (k:=3) (g:=gj _ _ _) λ_ _ _ _ _ _ hr=>(af (jf (oh (jC (gO (gT (jZ ar (ae at0) bB))) (fX (ml hr.units (dw rfl bd (aa (ae at0) ad)) ag)))) (af (bg nP) am) am) (af (cf at1 qU.nd (aB (ae at0) ag)) (af (jf (oh (jC (gO (gT (au k8m3 hr (aa (ae at1) (aa ag (aa (fj rfl bv) ad)))))) (fX (gO (gT (au k13m3 hr (aa (aB (ae at0) ag) (aa (ae at1) ad)))))))) (af (bg nP) am) am) (af (bg (au k14 hr (aa (aB (ae at0) ag) (aa (ae at1) (aa (dw rfl bd (aa (aB (ae at0) ag) ad)) ad))))) am))))).to rT) (by walk_at "1");have k16:=F16.1.callee F16.2 ((F16.1.okF nK (k:=4) (g:=dB _ _) λ_ _ _ _ _ _ hr=>(af (jf (gO (gT (au k15 hr (aa (ae at0) ad)))) (af (kr dR hr.hd (bh (l:=[116,104,105,115,32,105,115,32,110,111,32,115,99,114,101,101,110]) rfl (by decide))) am) am) am)).to lX) (by walk_at "1");have k9m5:=k9.mono 5;have k17:=F17.1.callee F17.2 ((F17.1.okF uY (k:=5) (g:=ik _ _) λ_ _ _ _ _ _ hr=>(af (jY (au k16 hr (aa (ae at0) ad))) (af (jf (oh (jC (gO (gT (wj ar (ae at1) ir))) (fX (zG (dw rfl bd (aa (ae at1) ad)) (dw rfl bd (aa (aB (ae at0) ag) ad)))))) (af (bg nP) am) am) (af (bg (FQ rfl rfl md (aa (kZ (eW (N':=["row","screen"]) (ix:=[0]) gz rfl (fc (ae at1)) (λC s₂ H₂ fp=>(gN (au k9m5 hr (aa (bZ at0) ad)) (ic (KQ (dw rfl bd (aa (bZ at0) ad)) (aB (bZ at1) ag))))) (λC s₂ H₂ fp=>jA))) ad))) am)))).to (tfr (F:=arG _))) (by walk_at "2");have k18:=F18.1.callee F18.2 ((F18.1.okF qI (k:=6) (g:=dj _ _) λ_ _ _ _ _ _ hr=>(af (jf (gO (gT (au k17 hr (aa (ae at0) (aa (ae at1) ad))))) (af (kr dR hr.hd (bh (l:=[116,104,101,115,101,32,97,114,101,32,110,111,32,114,111,119,115,32,116,104,97,116,32,116,104,101,32,115,99,114,101,101,110,32,99,97,110,32,115,104,111,119]) rfl (by decide))) am) am) am)).to nX) (by walk_at "2");have k19:=F19.1.callee F19.2 ((F19.1.okF (P:=P) (w:=w) (base:=base) td (k:=0) (g:=gJ) λ_ _ _ _ _ _ hr=>(af (cf at2 td.nd (aB (ae at0) ag)) (af (cf at3 td.nd (mq (dw rfl bd (aa (aB (ae at0) ag) ad)) (dw rfl bd (aa (ae at1) ad)))) (af (bg (aK (kZ (eW (N':=["row","width"]) (ix:=[2]) gz rfl (fc (ae at1)) (λC s₂ H₂ fp=>(Am (bZ at0) (aa (bZ at1) ad))) (λC s₂ H₂ fp=>jA))) (eE (rH (kK (aa (eE (bh (l:=[32]) rfl (by decide)) (ae at2)) ad))) (ae at3)))) am)))).to (tfr (F:=frG))) (by walk_at "2");have k36:=F36.1.callee F36.2 ((F36.1.okF (P:=P) (w:=w) (base:=base) pq (k:=0) (g:=fA) λ_ _ _ _ _ _ hr=>(af (jf (sL hr.units (aB (ae at0) ag) (bh (l:=[115,97,121]) rfl (by decide))) (af (bg (dw rfl bd (aa (aB (ae at0) ag) ad))) am) am) (af (jf (sL hr.units (aB (ae at0) ag) (bh (l:=[103,111]) rfl (by decide))) (af (bg (fj rfl eT)) am) am) (af (bg (fj rfl cN)) am)))).to (tfr (F:=ocG))) (by walk_at "1");have k46:=F46.1.callee F46.2 ((F46.1.okF (P:=P) (w:=w) (base:=base) qV (k:=0) (g:=fZ) λ_ _ _ _ _ _ hr=>(af (bg (aB (ae at0) ag)) am)).to (tfr (F:=pcF))) (by walk_at "1");have k47:=Bc F47.1 F47.2 (BJ (P:=P) (w:=w) (mg:=mg) (base:=base) k46 Di F47.1) (by walk_at "3") (n:=2) rfl;have k48:=Bc F48.1 F48.2 (jt (P:=P) (w:=w) (mg:=mg) (base:=base) (k36.mono 2) k47 jk F48.1) (by walk_at "4") (n:=3) rfl;have k49:=F49.1.callee F49.2 (pC (P:=P) (w:=w) (base:=base) qR aN bj dv fM aR bu aC aH k48 pX F49.1) (by walk_at "3");have k50:=F50.1.callee F50.2 (me (P:=P) (w:=w) (base:=base) k48 (k47.mono 3) mY F50.1) (by walk_at "3");have k51:=F51.1.callee F51.2 ((F51.1.okF C9 (k:=4) (g:=lJ _ _) λ_ _ _ _ _ _ hr=>(af (cf at5 C9.nd (ae at0)) (af (kM PassesOwn.leaving rfl (A0 rfl cZ (aa (ae at4) (aa (dw rfl bd (aa (ae at2) ad)) ad))) (di 6 C9.nd) (af (cf at5 C9.nd (au k50 hr (aa (au k49 hr (aa (ae at5) (aa (ae at1) (aa (ae at6) ad)))) (aa (aB (ae at2) (ae at6)) (aa (aB (ae at3) (ae at6)) ad))))) am)) (af (bg (ae at5)) am)))).to (tfr (F:=swF))) (by walk_at "5");have k52:=F52.1.callee F52.2 ((F52.1.okF (P:=P) (w:=w) (base:=base) uL (k:=2) (g:=hX _) λ_ _ _ _ _ _ hr=>(af (bg (DL rfl rfl rD k46 hr.in1 (kZ (eW (N':=["state","plans"]) (ix:=[0]) gz rfl (fc (ae at1)) (λC s₂ H₂ fp=>(rQ 1 hr.units (bZ at0))) (λC s₂ H₂ fp=>(zO (BX 1 hr.units (bZ at0)))))))) am)).to (tfr (F:=chF))) (by walk_at "2");have k52m5:=k52.mono 5;have k53:=F53.1.callee F53.2 ((F53.1.okF gY (k:=5) (g:=bU _ _) λ_ _ _ _ _ _ hr=>(af (cf at3 gY.nd (au k51 hr (aa (L8 hr.units (aV rfl aN bj) (aV rfl bz cO)) (aa (ae at0) (aa (ae at1) (aa (ae at2) (aa ag ad))))))) (af (bg (au k52m5 hr (aa (ae at3) (aa (cH (aa (aV rfl aN bj) (aa (aV rfl dv fM) (aa (aV rfl aC aH) (aa (aV rfl aR bu) ad))))) ad)))) am))).to (tfr (F:=peF))) (by walk_at "3");have k54:=F54.1.callee F54.2 ((F54.1.okF jX (k:=5) (g:=cR _ _) λ_ _ _ _ _ _ hr=>(af (cf at4 jX.nd (au k51 hr (aa (L8 hr.units (aV rfl dv fM) (aV rfl bz cO)) (aa (ae at0) (aa (ae at1) (aa (ae at2) (aa (ae at3) ad))))))) (af (cf at5 jX.nd (au k52m5 hr (aa (ae at4) (aa (cH (aa (aV rfl aN bj) (aa (aV rfl dv fM) (aa (aV rfl aC aH) (aa (aV rfl aR bu) ad))))) ad)))) (af (cf at4 jX.nd (au k51 hr (aa (L8 hr.units (aV rfl aN bj) (aV rfl bz cO)) (aa (ae at0) (aa (cG (ae at1) da (eB (ae at3))) (aa (cG (ae at2) da (eB (ae at3))) (aa ag ad))))))) (af (cf at6 jX.nd (au k52m5 hr (aa (ae at4) (aa (cH (aa (aV rfl aN bj) (aa (aV rfl dv fM) ad))) ad)))) (af (bg (cH (aa (aK (aB (ae at5) ag) (aB (ae at6) ag)) (aa (aK (aB (ae at5) ag) (aB (ae at6) ag)) ad)))) am)))))).to (tfr (F:=ppF))) (by walk_at "4");have k46m5:=k46.mono 5;have k55:=F55.1.callee F55.2 ((F55.1.okF iX (k:=6) (g:=cB _ _ _) λ_ _ _ _ _ _ hr=>(af (cf at4 iX.nd (rH (kK (aa (au k54 hr (aa (ae at0) (aa (ae at1) (aa (ae at2) (aa (ae at3) ad))))) (aa (au k53 hr (aa (ae at0) (aa (ae at1) (aa (ae at2) ad)))) ad))))) (af (bg (DL rfl rfl rD k46m5 hr.in1 (ae at4))) am))).to (tfr (F:=rpF))) (by walk_at "4");have k25:=F25.1.callee F25.2 ((F25.1.okF AB (k:=1) (g:=kE _) λ_ _ _ _ _ _ hr=>(af (bg (gN (vh hr.units (dw rfl bd (aa (ae at0) ad)) ag) (gN (vh hr.units (aB (ae at0) ag) (bh (l:=[115,97,121]) rfl (by decide))) (gN (au k9 hr (aa (aB (ae at0) ag) ad)) (ic (uS ag (dw rfl bd (aa (aB (ae at0) ag) ad)) (fj rfl bL))))))) am)).to (tfr (F:=LH))) (by walk_at "1");have k26:=F26.1.callee F26.2 ((F26.1.okF Du (k:=2) (g:=nL _) λ_ _ _ _ _ _ hr=>(af (jf (oh (jC (ml hr.units (dw rfl bd (aa (ae at0) ad)) ag) (fX (ml hr.units (aB (ae at0) ag) (bh (l:=[103,111]) rfl (by decide)))))) (af (bg nP) am) am) (af (bg (gN (au k8 hr (aa (aB (ae at0) ag) (aa ag (aa (mq (fj rfl bO) ag) ad)))) (ic (au k8 hr (aa (aB (ae at0) ag) (aa ag (aa (fj rfl bv) ad))))))) am))).to (tfr (F:=goG))) (by walk_at "1");have k25m3:=k25.mono 3;have k27:=F27.1.callee F27.2 ((F27.1.okF ul (k:=3) (g:=ie _ _) λ_ _ _ _ _ _ hr=>(af (jf (gO (gT (jZ ar (ae at0) bB))) (af (bg nP) am) am) (af (bg (I8 (au k25m3 hr (aa (ae at0) ad)) (I8 (au k26 hr (aa (ae at0) ad)) (ic (vh hr.units (ae at0) (cH (aa (bh (l:=[119,105,112,101]) rfl (by decide)) ad))))))) am))).to (tfr (F:=MQ))) (by walk_at "1");have k28:=F28.1.callee F28.2 ((F28.1.okF om (k:=4) (g:=dZ _ _) λ_ _ _ _ _ _ hr=>(af (jf (gO (gT (au k27 hr (aa (ae at0) ad)))) (af (kr fT hr.hd (bh (l:=[116,104,105,115,32,105,115,32,110,111,32,111,114,100,101,114]) rfl (by decide))) am) am) am)).to (tfr (F:=ckG _))) (by walk_at "1");have k29:=F29.1.callee F29.2 ((F29.1.okF mL (k:=5) (g:=dE _ _) λ_ _ _ _ _ _ hr=>(af (jf (gO (gT (wj ar (ae at0) ir))) (af (kr fT hr.hd (bh (l:=[116,104,105,115,32,105,115,32,110,111,32,108,105,115,116,32,111,102,32,111,114,100,101,114,115]) rfl (by decide))) am) am) (af (kM PassesOwn.leaving rfl (fc (ae at0)) (di 1 mL.nd) (af (jY (au k28 hr (aa (ae at1) ad))) am)) am))).to (tfr (F:=Ig _))) (by walk_at "1");have k38:=F38.1.callee F38.2 ((F38.1.okF (P:=P) (w:=w) (base:=base) kJ (k:=0) (g:=cV) λ_ _ _ _ _ _ hr=>(af (jf (ml hr.units (aB (ae at0) ag) (aB (ae at1) ag)) (af (bg vE) am) am) (af (jf (ml hr.units (aB (ae at0) ag) (bh (l:=[115,97,121]) rfl (by decide))) (af (bg (ae at1)) am) am) (af (cf at2 kJ.nd (aK (aB (ae at0) ag) (aB (ae at1) ag))) (af (bg (Dg (Lg (dw rfl bd (aa (ae at2) ad)) (fj rfl bL)) (cH (aa (bh (l:=[115,97,121]) rfl (by decide)) (aa (ae at2) ad))) vE)) am))))).to (tfr (F:=jnG))) (by walk_at "2");have k38m6:=k38.mono 6;have k39:=F39.1.callee F39.2 ((F39.1.okF rz (k:=6) (g:=gm _ _) λ_ _ _ _ _ _ hr=>(af (jY (au k29 hr (aa (ae at0) ad))) (af (xP 1 rz.nd (kK ad)) (af (kM PassesOwn.leaving rfl (fc (ae at0)) (di 2 rz.nd) (af (DF 1 3 rz.nd (Dg (zG (dw rfl bd (aa (ae at1) ad)) ag) (au k38m6 hr (aa (aB (ae at1) (vj ag)) (aa (ae at2) ad))) vE)) (af (jf (Lk (ae at3) vE) (af (qG 1 (ae at2)) am) (af (Dy 1 (ae at3) (vj ag)) am)) am))) (uP 1 (af (bg (ae at1)) am)))))).to (tfr (F:=shG _))) (by walk_at "1");have k19m7:=k19.mono 7;have k53m7:=k53.mono 7;have k56:=F56.1.callee F56.2 ((F56.1.okF C5 (k:=7) (g:=mM _ _ _ _ _) λ_ _ _ _ _ _ hr=>(af (jY (au k18 hr (aa (ae at0) (aa (ae at1) ad)))) (af (cf at2 C5.nd (au k19m7 hr (aa (ae at0) (aa (ae at1) ad)))) (af (cf at3 C5.nd (aB (aB (ae at0) ag) ag)) (af (xP 4 C5.nd (wQ rfl ir (aa (aB (au k55 hr (aa (ae at3) (aa (aB (aB (ae at0) ag) (ae at3)) (aa (aB (ae at2) (ae at3)) (aa (aB (aB (ae at0) ag) ag) ad))))) ag) ad))) (af (kM PassesOwn.leaving rfl (uN rfl bx (aB (ae at0) ag)) (kA rfl (bE 5 C5.nd (bE 6 C5.nd iS))) (af (jf (ml hr.units (ae at5) (ae at3)) (af (HZ 4 (aB (au k53m7 hr (aa (ae at5) (aa (ae at6) (aa (aB (ae at2) (ae at5)) ad)))) ag)) am) am) am) (hn:=fF _)) (uP 4 (af (bg (au k39 hr (aa (ae at4) ad))) am)))))))).to (tfr (F:=leF _))) (by walk_at "2");have k71:=F71.1.callee F71.2 ((F71.1.okF (P:=P) (w:=w) (base:=base) uT (k:=0) (g:=iy) λ_ _ _ _ _ _ hr=>(af (FG 2 uT.nd (N':=["_law_row_here","_law_screen_here"]) (ix:=[0]) gz rfl (fc (ae at1)) (λC s₂ H₂ fp=>(aK (bZ at0) (eE (bh (l:=[32]) rfl (by decide)) (mq (aB (bZ at1) ag) (dw rfl bd (aa (bZ at0) ad)))))) (λC s₂ H₂ fp=>jA)) (uP 2 (af (bg (mO rfl bB (aa (aK (ae at2) (eE (rH (kK (aa (eE (bh (l:=[32]) rfl (by decide)) (aB (ae at0) ag)) ad))) (mq (dw rfl bd (aa (aB (ae at0) ag) ad)) (dw rfl bd (aa (ae at1) ad))))) ad))) am)))).to (tfr (F:=KB))) (by walk_at "2");have k36m6:=k36.mono 6;have k37:=F37.1.callee F37.2 ((F37.1.okF Gq (k:=6) (g:=qo _ _) λ_ _ _ _ _ _ hr=>(af (jY (au k29 hr (aa (ae at0) ad))) (af (bg (LG rfl rfl A6 (aa (kZ (eW (N':=["order"]) (ix:=[]) gz rfl (fc (ae at0)) (λC s₂ H₂ fp=>(au k36m6 hr (aa (bZ at0) ad))) (λC s₂ H₂ fp=>jA))) ad))) am))).to (tfr (F:=coG _))) (by walk_at "1");have k20:=F20.1.callee F20.2 ((F20.1.okF mr (k:=7) (g:=dC _ _) λ_ _ _ _ _ _ hr=>(af (jY (au k18 hr (aa (ae at0) (aa (ae at1) ad)))) (af (xP 2 mr.nd (kK ad)) (af (kM PassesOwn.leaving rfl (uN rfl bx (au k19m7 hr (aa (ae at0) (aa (ae at1) ad)))) (kA rfl (bE 3 mr.nd (bE 4 mr.nd iS))) (af (cf at5 mr.nd (aB (aB (ae at0) ag) (ae at3))) (af (wL 2 (kZ (eW (N':=["column","number","row","own"]) (ix:=[3,4,5]) gz rfl (qC rfl cZ (aa (aB (ae at0) ag) ad)) (λC s₂ H₂ fp=>(cH (aa (bZ at1) (aa (bZ at0) ad)))) (λC s₂ H₂ fp=>(zO (ml hr.units (aB (bZ at3) (bZ at0)) (aB (bZ at2) (bZ at0)))))))) am)) (hn:=fF _)) (uP 2 (af (bg (ae at2)) am)))))).to (tfr (F:=usG))) (by walk_at "2");have k62:=F62.1.callee F62.2 ((F62.1.okF (P:=P) (w:=w) (base:=base) jF (k:=0) (g:=cQ) λ_ _ _ _ _ _ hr=>(af (bg (gN (vh hr.units (aB (ae at0) ag) (aB (ae at1) ag)) (ic (vh hr.units (aK (aB (ae at0) ag) (aB (ae at0) ag)) (aB (ae at1) ag))))) am)).to jJ) (by walk_at "2");have k62m8:=k62.mono 8;have k63:=F63.1.callee F63.2 ((F63.1.okF BQ (k:=8) (g:=mU _ _) λ_ _ _ _ _ _ hr=>(af (xP 2 BQ.nd (kK ad)) (af (kM PassesOwn.leaving rfl (fc (au k20 hr (aa (ae at0) (aa (ae at1) ad)))) (di 3 BQ.nd) (af (Lw 2 (oh (GR (zG (dw rfl bd (aa (ae at2) ad)) ag) (Cv (gT (au k62m8 hr (aa (aB (ae at2) (vj ag)) (aa (ae at3) ad))))))) (af (DF 2 4 BQ.nd (aB (ae at2) (vj ag))) (af (Dy 2 (cH (aa (aB (ae at4) ag) (aa (aB (ae at4) ag) (aa (aK (aB (ae at4) ag) ag) ad)))) (vj ag)) am)) (af (qG 2 (cH (aa (aB (ae at3) ag) (aa (aB (ae at3) ag) (aa ag ad))))) am)) am)) (uP 2 (af (bg (ae at2)) am))))).to (tfr (F:=Fp))) (by walk_at "2");have k30:=F30.1.callee F30.2 ((F30.1.okF (P:=P) (w:=w) (base:=base) jc (k:=0) (g:=cz) λ_ _ _ _ _ _ hr=>(af (cf at3 jc.nd (aB (aB (ae at0) ag) ag)) (af (cf at4 jc.nd (aK (aK (cG (aB (ae at0) ag) da (eB (ae at3))) (cH (aa (ae at1) ad))) (cG (aB (ae at0) ag) (eB (aK (ae at3) ag)) da))) (af (bg (cH (aa (aB (ae at0) ag) (aa (ae at4) (aa (cH (aa (ae at3) (aa (ae at2) ad))) ad))))) am)))).to (tfr (F:=wrG))) (by walk_at "3");have k31:=F31.1.callee F31.2 ((F31.1.okF qY (k:=1) (g:=gK _ _) λ_ _ _ _ _ _ hr=>(af (cf at2 qY.nd (aB (aB (ae at0) ag) (aB (aB (ae at0) ag) ag))) (af (cf at3 qY.nd (aB (aB (ae at0) ag) ag)) (af (cf at4 qY.nd (aK (ae at3) (dw rfl bd (aa (ae at1) ad)))) (af (jf (zG (ae at4) (aB (ae at0) ag)) (af (kr iV hr.hd (bh (l:=[116,104,101,32,116,101,120,116,32,105,115,32,119,105,100,101,114,32,116,104,97,110,32,119,104,97,116,32,105,115,32,108,101,102,116,32,111,102,32,116,104,101,32,114,111,119]) rfl (by decide))) am) am) (af (bg (au k30 hr (aa (ae at0) (aa (aK (aK (cG (ae at2) da (eB (ae at3))) (ae at1)) (cG (ae at2) (eB (ae at4)) da)) (aa (ae at4) ad))))) am)))))).to (tfr (F:=asG _))) (by walk_at "2");have k32:=F32.1.callee F32.2 ((F32.1.okF (P:=P) (w:=w) (base:=base) uw (k:=0) (g:=ip _) λ_ _ _ _ _ _ hr=>(af (jf (oh (jC (MG (ae at1) (dw rfl bd (aa (aB (ae at0) ag) ad))) (fX (zG (ae at2) (aB (ae at0) ag))))) (af (kr iV hr.hd (bh (l:=[116,104,101,32,115,99,114,101,101,110,32,100,111,101,115,32,110,111,116,32,104,97,118,101,32,116,104,105,115,32,112,108,97,99,101]) rfl (by decide))) am) am) (af (bg (cH (aa (aB (ae at0) ag) (aa (aB (ae at0) ag) (aa (cH (aa (ae at1) (aa (ae at2) ad))) ad))))) am))).to (tfr (F:=agG _))) (by walk_at "3");have k33:=F33.1.callee F33.2 ((F33.1.okF pS (k:=1) (g:=fq _) λ_ _ _ _ _ _ hr=>(af (cf at1 pS.nd (aB (aB (ae at0) ag) (aB (aB (ae at0) ag) ag))) (af (cf at2 pS.nd (aB (aB (ae at0) ag) ag)) (af (bg (au k30 hr (aa (ae at0) (aa (Am (cG (ae at1) da (eB (ae at2))) (aa (aB (ae at0) ag) ad)) (aa (ae at2) ad))))) am)))).to (tfr (F:=awG))) (by walk_at "1");have k32m2:=k32.mono 2;have k34:=F34.1.callee F34.2 ((F34.1.okF ox (k:=2) (g:=eM _ _ _) λ_ _ _ _ _ _ hr=>(af (jf (sL hr.units (aB (ae at1) ag) (bh (l:=[115,97,121]) rfl (by decide))) (af (bg (au k31 hr (aa (ae at0) (aa (aB (ae at1) ag) ad)))) am) am) (af (jf (sL hr.units (aB (ae at1) ag) (bh (l:=[103,111]) rfl (by decide))) (af (bg (au k32m2 hr (aa (ae at0) (aa (aB (ae at1) ag) (aa (aB (ae at1) ag) ad))))) am) am) (af (bg (au k33 hr (aa (ae at0) ad))) am)))).to (tfr (F:=aoG _))) (by walk_at "2");have k34m5:=k34.mono 5;have k35:=F35.1.callee F35.2 ((F35.1.okF EK (k:=5) (g:=jL _ _ _) λ_ _ _ _ _ _ hr=>(af (jY (au k16 hr (aa (ae at0) ad))) (af (jY (au k28 hr (aa (ae at1) ad))) (af (bg (au k34m5 hr (aa (ae at0) (aa (ae at1) ad)))) am)))).to (tfr (F:=kL _ _ _))) (by walk_at "2");have k60_1:=mW F60_1.1 F60_1.2 (rf (P:=P) (w:=w) (mg:=mg) (base:=base) aP E8 F60_1.1) (by walk_at "1") (n:=0) rfl;have k60_2:=mW F60_2.1 F60_2.2 (sf (P:=P) (w:=w) (mg:=mg) (base:=base) aP EF F60_2.1) (by walk_at "1") (n:=0) rfl;have k60_3:=mW F60_3.1 F60_3.2 (nY (P:=P) (w:=w) (mg:=mg) (base:=base) aP k60_2 Hv F60_3.1) (by walk_at "4") (n:=3) rfl;have k60_4:=mW F60_4.1 F60_4.2 (Ay (P:=P) (w:=w) (mg:=mg) (base:=base) k35 (k36.mono 6) aP (k60_1.mono 6) (k60_3.mono 6) (k60_2.mono 6) LA F60_4.1) (by walk_at "2") (n:=1) rfl;have k37m8:=k37.mono 8;have k57:=F57.1.callee F57.2 ((F57.1.okF pG (k:=8) (g:=fC _ _) λ_ _ _ _ _ _ hr=>(af (bg (au k37m8 hr (aa (au k56 hr (aa (ae at0) (aa (ae at1) ad))) ad))) am)).to (tfr (F:=rl _))) (by walk_at "2");have k60_6:=mW F60_6.1 F60_6.2 (sC (P:=P) (w:=w) (mg:=mg) (base:=base) bB k57 (k19.mono 9) aP (k60_1.mono 9) (k60_3.mono 9) FF F60_6.1) (by walk_at "2") (n:=1) rfl;have k60_0:=mkc F60_0.1 F60_0.2 Iy aP.ne (tM (P:=P) (w:=w) (mg:=mg) (base:=base) lL k16 aP Iq F60_0.1) (by walk_at "2") (n:=1) rfl;exact Hz (k69.mono 10) (k70.mono 10) (k56.mono 10) (k71.mono 10) (k37.mono 10) (k63.mono 10) (k39.mono 10) aP (k60_4.mono 10) (k60_1.mono 10) (k60_2.mono 10) k60_6 (CM k60_0 9) (Gg KS) F72.1
end G92
namespace PySem.W.Fast
theorem tw1853159069078298912:True:=⟨⟩
theorem tw15187017771111559795:True:=⟨⟩
theorem tw5830391680824676452:True:=⟨⟩
theorem tw12189132804137909530:True:=⟨⟩
theorem tw7389585645947369726:True:=⟨⟩
theorem tw15641484725194142828:True:=⟨⟩
theorem tw18205858668258556459:True:=⟨⟩
theorem tw306339533054125736:True:=⟨⟩
theorem tw14374967888468270801:True:=⟨⟩
theorem tw13670486073348581918:True:=⟨⟩
theorem tw5213920805583582669:True:=⟨⟩
theorem tw9409165449581841701:True:=⟨⟩
theorem tw7082392010996635978:True:=⟨⟩
theorem tw3742880782440856002:True:=⟨⟩
theorem tw11602622363753464956:True:=⟨⟩
theorem tw5886172639375760599:True:=⟨⟩
theorem tw8070098533716358265:True:=⟨⟩
theorem tw7239842971933295507:True:=⟨⟩
theorem tw17944137726148079837:True:=⟨⟩
theorem tw7493402506706684176:True:=⟨⟩
theorem tw10849076572171783537:True:=⟨⟩
theorem tw3165715767905105438:True:=⟨⟩
theorem tw3207303288884682390:True:=⟨⟩
theorem tw2733445451111566378:True:=⟨⟩
theorem tw11164165759687424151:True:=⟨⟩
theorem tw7044323457703566726:True:=⟨⟩
theorem tw14292870321899237554:True:=⟨⟩
theorem tw2572678822992308797:True:=⟨⟩
theorem tw9978922375716203290:True:=⟨⟩
theorem tw831458799827618085:True:=⟨⟩
theorem tw950849194170525927:True:=⟨⟩
theorem tw7537636783942603752:True:=⟨⟩
theorem tw17790999746812479562:True:=⟨⟩
theorem tw2424220264829020399:True:=⟨⟩
theorem tw16957084838693263184:True:=⟨⟩
theorem tw15713220062071516307:True:=⟨⟩
theorem tw3028462221575879123:True:=⟨⟩
theorem tw16407396246410212275:True:=⟨⟩
theorem tw3801802831763654389:True:=⟨⟩
theorem tw15973962862475845879:True:=⟨⟩
theorem tw13535367786695922366:True:=⟨⟩
theorem tw17363242382446728127:True:=⟨⟩
end PySem.W.Fast
open PySem PySem.W PyProof.Rows
set_option maxRecDepth 100000 in
set_option maxHeartbeats 0 in
theorem PySem.Challenge.cw_screenlines_k92_whole_orders_on_pads_holds : PySem.Challenge.rw_screenlines_k92_whole_orders_on_pads.Holds := by
 w_on;o_law;k_head;(case hw=>w_witness2)
 k_fill
 refine Q.Oh (l:=PySem.Challenge.rw_screenlines_k92_whole_orders_on_pads) (L:=11) ⟨rfl,by decide,by decide⟩ rfl rfl (λw h Y=>PySem.W.kIn_of Y) ?F
 case F=>
  intro w mg fa h KX G hmg;have md:mg "all"=none:=PySem.W.mg_none_of KX G (by k_is);have rX:mg "bool"=none:=PySem.W.mg_none_of KX G (by k_is);have qR:mg "dict"=none:=PySem.W.mg_none_of KX G (by k_is);have bx:mg "enumerate"=none:=PySem.W.mg_none_of KX G (by k_is);have uH:mg "int"=none:=PySem.W.mg_none_of KX G (by k_is);have ar:mg "isinstance"=none:=PySem.W.mg_none_of KX G (by k_is);have bd:mg "len"=none:=PySem.W.mg_none_of KX G (by k_is);have ir:mg "list"=none:=PySem.W.mg_none_of KX G (by k_is);have rD:mg "min"=none:=PySem.W.mg_none_of KX G (by k_is);have cZ:mg "range"=none:=PySem.W.mg_none_of KX G (by k_is);have Aw:mg "str"=none:=PySem.W.mg_none_of KX G (by k_is);have A6:mg "sum"=none:=PySem.W.mg_none_of KX G (by k_is);have bB:mg "tuple"=none:=PySem.W.mg_none_of KX G (by k_is);have aN:=Q.mX (x:="ELSEWHERE") KX G (by k_is) (Q.ky (vs:=[L2.V.bl false,L2.V.bl false]) (by k_is) (by decide) (.cons rfl (.cons rfl .nil)) (λ_=>(.cons (.bl _) (.cons (.bl _) .nil))));have aC:=Q.mX (x:="ELSEWHERE_WIPED") KX G (by k_is) (Q.ky (vs:=[L2.V.bl false,L2.V.bl true]) (by k_is) (by decide) (.cons rfl (.cons rfl .nil)) (λ_=>(.cons (.bl _) (.cons (.bl _) .nil))));have eT:∃t,mg "GO_COST"=some (.int 2 t):=⟨_,PySem.W.mg_of KX G (by k_is)⟩
  have dv:=Q.mX (x:="HERE") KX G (by k_is) (Q.ky (vs:=[L2.V.bl true,L2.V.bl false]) (by k_is) (by decide) (.cons rfl (.cons rfl .nil)) (λ_=>(.cons (.bl _) (.cons (.bl _) .nil))));have aR:=Q.mX (x:="HERE_WIPED") KX G (by k_is) (Q.ky (vs:=[L2.V.bl true,L2.V.bl true]) (by k_is) (by decide) (.cons rfl (.cons rfl .nil)) (λ_=>(.cons (.bl _) (.cons (.bl _) .nil))));have lL:∃t,mg "MADE"=some (.str "made" t):=⟨_,PySem.W.mg_of KX G (by k_is)⟩
  have bO:∃t,mg "MOST_ROWS"=some (.int 12 t):=⟨_,PySem.W.mg_of KX G (by k_is)⟩
  have bL:∃t,mg "MOST_SAID"=some (.int 40 t):=⟨_,PySem.W.mg_of KX G (by k_is)⟩
  have bv:∃t,mg "MOST_WIDTH"=some (.int 40 t):=⟨_,PySem.W.mg_of KX G (by k_is)⟩
  have bz:=Q.mX (x:="NO_ORDERS") KX G (by k_is) (Q.ky (vs:=[L2.V.int 0,L2.V.ref _]) (by k_is) (by decide) (.cons ⟨_,rfl⟩ (.cons rfl .nil)) (λ_=>(.cons (.int _) (.cons (Q.ky (vs:=[]) (by k_is) (by decide) .nil (λ_=>.nil) _) .nil))));have cN:∃t,mg "WIPE_COST"=some (.int 1 t):=⟨_,PySem.W.mg_of KX G (by k_is)⟩
  have h65:=Q.aJ (x:="_law_cell") (st:=G92.top 65) KX G (by k_is) (by k_is) (by k_is) (by k_is);have h66:=Q.aJ (x:="_law_pick") (st:=G92.top 66) KX G (by k_is) (by k_is) (by k_is) (by k_is);have h67:=Q.aJ (x:="_law_row") (st:=G92.top 67) KX G (by k_is) (by k_is) (by k_is) (by k_is);have h68:=Q.aJ (x:="_law_screen") (st:=G92.top 68) KX G (by k_is) (by k_is) (by k_is) (by k_is);have h69:=Q.aJ (x:="_law_some") (st:=G92.top 69) KX G (by k_is) (by k_is) (by k_is) (by k_is);have h70:=Q.aJ (x:="_law_goal") (st:=G92.top 70) KX G (by k_is) (by k_is) (by k_is) (by k_is);have h7:=Q.aJ (x:="is_whole") (st:=G92.top 7) KX G (by k_is) (by k_is) (by k_is) (by k_is);have h8:=Q.aJ (x:="is_within") (st:=G92.top 8) KX G (by k_is) (by k_is) (by k_is) (by k_is);have h9:=Q.aJ (x:="is_plain") (st:=G92.top 9) KX G (by k_is) (by k_is) (by k_is) (by k_is);have h13:=Q.aJ (x:="are_full_rows") (st:=G92.top 13) KX G (by k_is) (by k_is) (by k_is) (by k_is);have h14:=Q.aJ (x:="is_place") (st:=G92.top 14) KX G (by k_is) (by k_is) (by k_is) (by k_is);have h15:=Q.aJ (x:="is_screen") (st:=G92.top 15) KX G (by k_is) (by k_is) (by k_is) (by k_is);have h16:=Q.aJ (x:="check_screen") (st:=G92.top 16) KX G (by k_is) (by k_is) (by k_is) (by k_is);have h17:=Q.aJ (x:="are_rows") (st:=G92.top 17) KX G (by k_is) (by k_is) (by k_is) (by k_is);have h18:=Q.aJ (x:="check_rows") (st:=G92.top 18) KX G (by k_is) (by k_is) (by k_is) (by k_is);have h19:=Q.aJ (x:="full_rows") (st:=G92.top 19) KX G (by k_is) (by k_is) (by k_is) (by k_is);have h36:=Q.aJ (x:="order_cost") (st:=G92.top 36) KX G (by k_is) (by k_is) (by k_is) (by k_is);have h46:=Q.aJ (x:="plan_cost") (st:=G92.top 46) KX G (by k_is) (by k_is) (by k_is) (by k_is);have h47:=Q.aJ (x:="offer") (st:=G92.top 47) KX G (by k_is) (by k_is) (by k_is) (by k_is);have h48:=Q.aJ (x:="offer_with_order") (st:=G92.top 48) KX G (by k_is) (by k_is) (by k_is) (by k_is);have h49:=Q.aJ (x:="with_moves") (st:=G92.top 49) KX G (by k_is) (by k_is) (by k_is) (by k_is);have h50:=Q.aJ (x:="stepped_over") (st:=G92.top 50) KX G (by k_is) (by k_is) (by k_is) (by k_is);have h51:=Q.aJ (x:="swept") (st:=G92.top 51) KX G (by k_is) (by k_is) (by k_is) (by k_is);have h52:=Q.aJ (x:="cheapest") (st:=G92.top 52) KX G (by k_is) (by k_is) (by k_is) (by k_is);have h53:=Q.aJ (x:="plan_from_elsewhere") (st:=G92.top 53) KX G (by k_is) (by k_is) (by k_is) (by k_is);have h54:=Q.aJ (x:="plan_from_place") (st:=G92.top 54) KX G (by k_is) (by k_is) (by k_is) (by k_is);have h55:=Q.aJ (x:="row_of_place_plan") (st:=G92.top 55) KX G (by k_is) (by k_is) (by k_is) (by k_is);have h25:=Q.aJ (x:="is_say") (st:=G92.top 25) KX G (by k_is) (by k_is) (by k_is) (by k_is);have h26:=Q.aJ (x:="is_go") (st:=G92.top 26) KX G (by k_is) (by k_is) (by k_is) (by k_is);have h27:=Q.aJ (x:="is_order") (st:=G92.top 27) KX G (by k_is) (by k_is) (by k_is) (by k_is);have h28:=Q.aJ (x:="check_order") (st:=G92.top 28) KX G (by k_is) (by k_is) (by k_is) (by k_is);have h29:=Q.aJ (x:="check_orders") (st:=G92.top 29) KX G (by k_is) (by k_is) (by k_is) (by k_is);have h38:=Q.aJ (x:="joined_or_none") (st:=G92.top 38) KX G (by k_is) (by k_is) (by k_is) (by k_is);have h39:=Q.aJ (x:="shortened") (st:=G92.top 39) KX G (by k_is) (by k_is) (by k_is) (by k_is);have h56:=Q.aJ (x:="least") (st:=G92.top 56) KX G (by k_is) (by k_is) (by k_is) (by k_is);have h71:=Q.aJ (x:="_law_full") (st:=G92.top 71) KX G (by k_is) (by k_is) (by k_is) (by k_is);have h37:=Q.aJ (x:="cost") (st:=G92.top 37) KX G (by k_is) (by k_is) (by k_is) (by k_is);have h20:=Q.aJ (x:="unlike_spots") (st:=G92.top 20) KX G (by k_is) (by k_is) (by k_is) (by k_is);have h62:=Q.aJ (x:="is_right_behind") (st:=G92.top 62) KX G (by k_is) (by k_is) (by k_is) (by k_is);have h63:=Q.aJ (x:="spans") (st:=G92.top 63) KX G (by k_is) (by k_is) (by k_is) (by k_is);have h30:=Q.aJ (x:="with_row_at_place") (st:=G92.top 30) KX G (by k_is) (by k_is) (by k_is) (by k_is);have h31:=Q.aJ (x:="after_say") (st:=G92.top 31) KX G (by k_is) (by k_is) (by k_is) (by k_is);have h32:=Q.aJ (x:="after_go") (st:=G92.top 32) KX G (by k_is) (by k_is) (by k_is) (by k_is);have h33:=Q.aJ (x:="after_wipe") (st:=G92.top 33) KX G (by k_is) (by k_is) (by k_is) (by k_is);have h34:=Q.aJ (x:="after_order") (st:=G92.top 34) KX G (by k_is) (by k_is) (by k_is) (by k_is);have h35:=Q.aJ (x:="done") (st:=G92.top 35) KX G (by k_is) (by k_is) (by k_is) (by k_is);have h57:=Q.aJ (x:="least_cost") (st:=G92.top 57) KX G (by k_is) (by k_is) (by k_is) (by k_is);have h72:=Q.aJ (x:="law") (st:=G92.top 72) KX G (by k_is) (by k_is) (by k_is) (by k_is)
  refine' G92.Kj (P:=_) (w:=w) (K:=L2.KOf KX) hmg md rX qR bx uH ar bd ir rD cZ Aw A6 bB aN aC eT dv aR lL bO bL bv bz cN ?my ?mC ?pK ?qc ?ko ?kH ?Fg ?aP h65 h66 h67 h68 h69 h70 h7 h8 h9 h13 h14 h15 h16 h17 h18 h19 h36 h46 h47 h48 h49 h50 h51 h52 h53 h54 h55 h25 h26 h27 h28 h29 h38 h39 h56 h71 h37 h20 h62 h63 h30 h31 h32 h33 h34 h35 ?h60_1 ?h60_2 ?h60_3 ?h60_4 h57 ?h60_6 ?h60_0 h72
  all_goals (try dsimp only[L2.KOf])
  (case my=>k_is)
  (case pK=>k_is)
  (case ko=>k_is)
  (case mC=>k_exc)
  (case qc=>k_exc)
  (case kH=>k_exc)
  (case Fg=>k_is)
  (case aP=>exact Q.AR 0 (x:="states") (Q.AR 1 (x:="taken_back") (Q.HM (by decide) (by k_is) (by k_is) (by k_is) (by k_is)) (by decide) rfl (by k_is)) (by decide) rfl (by k_is))
  (case h60_1=>exact Q.eN (st:=(L2.bt (G92.top 60) 1)) (by k_is) (by k_is) (by k_is) (by k_is) (by k_is))
  (case h60_2=>exact Q.eN (st:=(L2.bt (G92.top 60) 2)) (by k_is) (by k_is) (by k_is) (by k_is) (by k_is))
  (case h60_3=>exact Q.eN (st:=(L2.bt (G92.top 60) 3)) (by k_is) (by k_is) (by k_is) (by k_is) (by k_is))
  (case h60_4=>exact Q.eN (st:=(L2.bt (G92.top 60) 4)) (by k_is) (by k_is) (by k_is) (by k_is) (by k_is))
  (case h60_6=>exact Q.eN (st:=(L2.bt (G92.top 60) 6)) (by k_is) (by k_is) (by k_is) (by k_is) (by k_is))
  (case h60_0=>exact Q.Gk (st:=(L2.bt (G92.top 60) 0)) (by k_is) (by k_is) (by k_is) (by k_is) (by k_is) (by k_is) (by k_is))
end
end
