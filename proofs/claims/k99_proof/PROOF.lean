import PyProof.Rows.All
import Wide.All
import OpenK.AllK
import Wide.FinOn
import Lean
import PyProof.EqAt
import PyProof.EqKinds
import PyProof.TupleCall
import PyProof.NeKinds
import KE.KDictOf
import PyProof.Rows.TupDisplay
import PyProof.DictItems
import KE.KPairComp
import PyProof.Draws
import KE.KTupSum
import KE.KIntText
import PyProof.Rows.Range3
import PyProof.Rows.FStr
import PyProof.StrCalls2
import PyProof.StrLawsTight
import PyProof.StrLawsIn
import PyProof.StrCalls
import KE.KLam
import KE.KMinKey
import PyProof.Rows.RuleN_abs
import PyProof.Rows.StrCut
import PySem.Challenge.RW_screenlines_k99_whole_scrolled_pads
set_option Elab.async false
set_option linter.all false
set_option maxRecDepth 100000
noncomputable section
variable{us its:List Value}{x y qual y0 y1:Str}{u cd doc cdv oc:Value}{a b p q it C f Pt aF aB dC a_ELSEWHERE a_HERE a_HERE_WIPED a_ELSEWHERE_WIPED a_NO_ORDERS bU iX:Addr}{o:Obj}{P:Program}{h h':Heap}{t' i j k kt wd J M:Nat}{ch fp ts:List Addr}{E:Value->Shared->Prop}{s' s:Shared}{pos py:Pos}{pins:List (Addr×Obj)}{es elts:List Expr}{tg iter tgt:Expr}{mA:Str->Option Value}{fd:FuncData}{ps loose N':List Str}{scope:Scope}{an od:Option Addr}{osl:Array (Option Value)}{st:Stmt}{ks ix is old:List Nat}{neg fz:Bool}
namespace L2
open PySem PySem.Spec PyProof.Rows
noncomputable abbrev Key:=Sum Int Str
noncomputable def GQ:Key->Value->Bool
 |.inl k,v=>Value.isInt k v
 |.inr x,v=>Value.isStrOf x v
noncomputable def M1(w:World):Key->Int
 |.inl k=>hashInt k
 |.inr x=>hashStr w x
def cq:∀{k:Key}{v:Value},GQ k v=true->(∃i t,k=Sum.inl i/\v=Value.int i t)\/(∃x t,k=Sum.inr x/\v=Value.str x t)
 |.inl i,v,h=>by obtain⟨t,e⟩:=Value.isInt_shape (k:=i) (v:=v) h;exact .inl ⟨i,t,rfl,e⟩
 |.inr x,v,h=>by obtain⟨t,e⟩:=Value.isStrOf_shape (x:=x) (v:=v) h;exact .inr ⟨x,t,rfl,e⟩
def Jf(a b:Int):decide ((Sum.inl a:Key)=Sum.inl b)=(a==b):=by
 by_cases e:a=b;·subst e;simp
 ·have h : ¬ (Sum.inl a:Key)=Sum.inl b:=λq=>e (Sum.inl.inj q);rw[decide_eq_false h];exact(beq_eq_false_iff_ne.mpr e).symm
def GP(a b:Str):decide ((Sum.inr a:Key)=Sum.inr b)=decide (a=b):=by
 by_cases e:a=b;·subst e;simp
 ·have h : ¬ (Sum.inr a:Key)=Sum.inr b:=λq=>e (Sum.inr.inj q);rw[decide_eq_false h,decide_eq_false e]
def Jp(a:Int)(b:Str):decide ((Sum.inl a:Key)=Sum.inr b)=false:=decide_eq_false (λq=>nomatch q)
def IR(a:Str)(b:Int):decide ((Sum.inr a:Key)=Sum.inl b)=false:=decide_eq_false (λq=>nomatch q)
noncomputable def uB(prog:Program)(w:World):PySem.KeyKind prog w Key where
 is:=GQ
 hash:=M1 w
 inj:=λv a b ha hb=>by
  rcases cq ha with⟨i,t,rfl,rfl⟩|⟨x,t,rfl,rfl⟩
  ·rcases cq hb with⟨j,u,rfl,e⟩|⟨y,u,rfl,e⟩;·injection e with e1 _;rw[e1]
   ·exact nomatch e
  ·rcases cq hb with⟨j,u,rfl,e⟩|⟨y,u,rfl,e⟩;·exact nomatch e
   ·injection e with e1 _;rw[e1]
 byValue:=λk v h=>by rcases cq h with⟨i,t,rfl,rfl⟩|⟨x,t,rfl,rfl⟩ <;> rfl
 pyHash:=λhv h=>by
  rcases cq hv with⟨i,t,rfl,rfl⟩|⟨x,t,rfl,rfl⟩;·exact wpAny_pyHash_int h
  ·exact wpAny_pyHash_str h
 eqBool:=λhu hv h=>by
  rcases cq hu with⟨i,t,rfl,rfl⟩|⟨x,t,rfl,rfl⟩
  ·rcases cq hv with⟨j,u,rfl,rfl⟩|⟨y,u,rfl,rfl⟩;·rw[Jf]at h;exact wpAny_eqBool_int h
   ·rw[Jp]at h;exact SeqAt.EqAt.int_str i t y u _ _ _ _ h
  ·rcases cq hv with⟨j,u,rfl,rfl⟩|⟨y,u,rfl,rfl⟩;·rw[IR]at h;exact SeqAt.EqAt.str_int x t j u _ _ _ _ h
   ·rw[GP]at h;exact wpAny_eqBool_str h
 «strs»:=λk x t v h=>by
  rcases cq h with⟨i,u,rfl,e⟩|⟨y,u,rfl,e⟩;·exact nomatch e
  ·injection e with e1 _;subst e1;cases v <;> rfl
inductive V where
 |non|bl (b:Bool)|int (i:Int)|str (x:Str)|byt (b:Array UInt8)|flt (b:UInt64)|ref (a:Addr)|ty (n:String)
 deriving DecidableEq
noncomputable def RelV:V->Value->Prop
 |.non,u=>u=Value.none
 |.bl b,u=>u=Value.bool b
 |.int i,u=>∃t,u=Value.int i t
 |.str x,u=>∃t,u=Value.str x t
 |.byt b,u=>∃t,u=Value.bytes b t
 |.flt b,u=>∃t,u=Value.float b t
 |.ref a,u=>u=Value.ref a
 |.ty n,u=>u=Value.type n
noncomputable abbrev Vals:List V->List Value->Prop:=Paired RelV
def Vals.length{xs:List V}(r:Vals xs us):xs.length=us.length:=Paired.length r
def Vals.get:∀{xs:List V}{us:List Value}{i:Nat}{x:V},Vals xs us->xs[i]?=some x->∃u,us[i]?=some u/\RelV x u
 |_,_,_,_,.nil,e=>by simp at e
 |_,_,0,_,.cons r _,e=>by simp at e;subst e;exact⟨_,rfl,r⟩
 |_,_,i+1,x,.cons _ t,e=>by obtain⟨u,h1,h2⟩:=Vals.get (i:=i) (x:=x) t (by simpa using e);exact⟨u,by simpa using h1,h2⟩
def Vals.set{x:V}(r:RelV x u):∀{xs:List V}{us:List Value}(i:Nat),Vals xs us->Vals (xs.set i x) (us.set i u)
 |_,_,_,.nil=>.nil
 |_,_,0,.cons _ t=>.cons r t
 |_,_,i+1,.cons q t=>.cons q (Vals.set r i t)
def Vals.append:∀{xs ys:List V}{us ws:List Value},Vals xs us->Vals ys ws->Vals (xs++ys) (us++ws)
 |_,_,_,_,.nil,s=>s
 |_,_,_,_,.cons r t,s=>.cons r (Vals.append t s)
def Vals.take:∀{xs:List V}{us:List Value}(n:Nat),Vals xs us->Vals (xs.take n) (us.take n)
 |_,_,0,_=>.nil
 |_,_,_+1,.nil=>.nil
 |_,_,n+1,.cons r t=>.cons r (Vals.take n t)
def Vals.drop:∀{xs:List V}{us:List Value}(n:Nat),Vals xs us->Vals (xs.drop n) (us.drop n)
 |_,_,0,r=>r
 |_,_,_+1,.nil=>.nil
 |_,_,n+1,.cons _ t=>Vals.drop n t
noncomputable def RelO:Option V->Option Value->Prop
 |some v,some u=>RelV v u
 |none,none=>True
 |_,_=>False
noncomputable def KV{κ:Type}:List (κ×V)->List (κ×Value)->Prop:=Paired λ(p:κ×V) (q:κ×Value)=>p.1=q.1/\RelV p.2 q.2
noncomputable def kV:Key->V
 |.inl i=>.int i
 |.inr x=>.str x
inductive HO where
  |lst (xs : List V)
  |tup (xs : List V)
  |dK (kvs : List (Key × V))|dT (kvs : List (List Key × V))
  |set (S : Int -> Bool) (n : Nat)
  |ins (C dx : Addr) (fs : List (Str × V))
  |own (x : Addr)
  |xd (fs : List (Str × V))
  |met (f x : Addr)
  |rng (lo hi : Int)
  |frz (o : Obj) (u : HO)
  |tbl (ps : Array Value)
  |ext (φ : Heap -> Prop)

noncomputable abbrev Hp:=Addr->Option HO
noncomputable def upd(H:Hp)(a:Addr)(o:HO):Hp:=λb=>if b=a then some o else H b
def aS{H:Hp}{o:HO}:upd H a o a=some o:=by unfold upd;rw[if_pos rfl]
def aH{H:Hp}{o:HO}(h:b≠a):upd H a o b=H b:=by unfold upd;rw[if_neg h]
def aP{H:Hp}{o:HO}(h:H a=some o)(h':H b=none):a≠b:=by intro e;subst e;rw[h]at h';cases h'
noncomputable def zg(ps:Array Value):Str:=match ps.toList with
 |.str q _::_=>q
 |_=>Str.empty
section
variable(P:Program)(w:World)
noncomputable def ObjOk(H:Hp)(h:Heap)(a:Addr):HO->Prop
 |.lst xs=>xs.length<=sizeLine/\∃(its:List Value)(n:Nat),Vals xs its/\h.get? a=some { cls:=.type "list",data:=.seq its.toArray n }
 |.tup xs=>xs.length<=sizeLine/\∃its:List Value,Vals xs its/\IsTup h a its.toArray
 |.dK kvs=>kvs.length<=sizeLine/\(a==sysModules)=false/\∃vs,KV kvs vs/\h.DictOf (uB P w) a vs
 |.dT kvs=>kvs.length<=sizeLine/\(a==sysModules)=false/\∃xs:List (List Key×Addr×Value),
   Paired (λ(p:List Key×V) (q:List Key×Addr×Value)=>p.1=q.1/\H q.2.1=some (.tup (p.1.map kV))/\RelV p.2 q.2.2) kvs xs/\
   ∃o es ep,h.get? a=some o/\o.ExactDict/\o.data=.dict es ep/\es.toList=xs.map (entryOfKey (tupleKind (uB P w)))/\(xs.map (·.1)).Nodup
 |.set S n=>h.SetOf (intKind P w) a S n
 |.ins C dx fs=>H dx=some (.own a)/\fs.length<=1000/\dx≠a/\h.get? a=some (W.instObj C dx)/\
   ∃mA,h.Ns1 dx mA/\(∀f,RelO (fs.lookup f) (mA f))/\PySem.Within mA (fs.map (·.1))
 |.own _=>∃o,h.get? a=some o
 |.xd fs=>∃mA,h.Ns1 a mA/\∀f,RelO (fs.lookup f) (mA f)
 |.rng lo hi=>∃t u v,h.get? a=some { cls:=.type "range",data:=.fields #[.int lo t,.int hi u,.int 1 v] }
 |.frz o u=>h.get? a=some o/\ObjOk H h a u
 |.tbl ps=>∃qs:Array Value,h.get? a=some { cls:=.none,data:=.fields qs }/\TriplesOk qs.toList/\∀(pos:Pos)(cv:Value),codeAmong pos qs.toList=some cv->∃c o vs t,cv=.ref c/\H c=some (.frz o (.own a))/\o.data=.fields vs/\vs[1]?=some (.str (zg ps) t)
 |.met f x=>h.get? a=some (W.methodObj (.ref f) (.ref x))
 |.ext φ=>φ h/\(∃o,h.get? a=some o)/\∀h1 h2:Heap,φ h1->(∀o,h1.get? a=some o->h2.get? a=some o)->φ h2
noncomputable def HOk(H:Hp)(h:Heap):Prop:=∀a o,H a=some o->ObjOk P w H h a o
end
section
variable{w:World}{H H':Hp}{o:HO}
def ObjOk.lt(x:ObjOk P w H h a o):a<h.objs.size:=by
 cases o with
 |lst xs=>obtain⟨_,_,_,_,e⟩:=x;exact Heap.lt_size e
 |tup xs=>obtain⟨_,_,_,p⟩:=x;exact p.lt
 |dK kvs=>obtain⟨_,_,_,_,o,_,_,e,_⟩:=x;exact Heap.lt_size e
 |dT kvs=>obtain⟨_,_,_,_,o,_,_,e,_⟩:=x;exact Heap.lt_size e
 |set S n=>obtain⟨o,_,_,_,e,_⟩:=x;exact Heap.lt_size e
 |ins C dx fs=>obtain⟨_,_,_,e,_⟩:=x;exact Heap.lt_size e
 |own y=>obtain⟨_,e⟩:=x;exact Heap.lt_size e
 |xd fs=>obtain⟨_,⟨_,_,_,e,_⟩,_⟩:=x;exact Heap.lt_size e
 |rng lo hi=>obtain⟨_,_,_,e⟩:=x;exact Heap.lt_size e
 |frz ob u=>obtain⟨e,_⟩:=x;exact Heap.lt_size e
 |tbl ps=>obtain⟨_,e,_⟩:=x;exact Heap.lt_size e
 |met f y=>exact Heap.lt_size (show h.get? a=some _ from x)
 |ext φ=>obtain⟨_,⟨_,e⟩,_⟩:=x;exact Heap.lt_size e
def Paired.mapP{α β:Type}{F G:α->β->Prop}:∀{l₁:List α}{l₂:List β},Paired F l₁ l₂->(∀a b,F a b->G a b)->Paired G l₁ l₂
 |_,_,.nil,_=>.nil
 |_,_,.cons r t,f=>.cons (f _ _ r) (Paired.mapP t f)
def ObjOk.stay(x:ObjOk P w H h a o)(k:∀b u,(b=a\/H b=some (.own a))->h.get? b=some u->h'.get? b=some u)(ho:∀b,H b=some (.own a)->H' b=some (.own a))(ht:∀b xs,H b=some (.tup xs)->H' b=some (.tup xs))(hz:∀b o u,H b=some (.frz o u)->H' b=some (.frz o u):=by exact λ_ _ _ q=>q):ObjOk P w H' h' a o:=by
 induction o with
 |lst xs=>obtain⟨z,its,n,r,e⟩:=x;exact⟨z,its,n,r,k _ _ (.inl rfl) e⟩
 |tup xs=>obtain⟨z,its,r,ob,e,c⟩:=x;exact⟨z,its,r,ob,k _ _ (.inl rfl) e,c⟩
 |dK kvs=>obtain⟨z,y,vs,r,ob,es,ep,e,c⟩:=x;exact⟨z,y,vs,r,ob,es,ep,k _ _ (.inl rfl) e,c⟩
 |dT kvs=>obtain⟨z,y,xs,r,ob,es,ep,e,c⟩:=x;exact⟨z,y,xs,Paired.mapP r λp q z=>⟨z.1,ht _ _ z.2.1,z.2.2⟩,ob,es,ep,k _ _ (.inl rfl) e,c⟩
 |set S n=>obtain⟨ob,es,ep,t,e,c⟩:=x;exact⟨ob,es,ep,t,k _ _ (.inl rfl) e,c⟩
 |ins C dx fs=>obtain⟨d,z,ne,e,mA,⟨od,es,ep,e2,c⟩,r⟩:=x;exact⟨ho _ d,z,ne,k _ _ (.inl rfl) e,mA,⟨od,es,ep,k _ _ (.inr d) e2,c⟩,r⟩
 |own y=>obtain⟨ob,e⟩:=x;exact⟨ob,k _ _ (.inl rfl) e⟩
 |xd fs=>obtain⟨mA,⟨od,es,ep,e,c⟩,r⟩:=x;exact⟨mA,⟨od,es,ep,k _ _ (.inl rfl) e,c⟩,r⟩
 |rng lo hi=>obtain⟨t,u,v,e⟩:=x;exact⟨t,u,v,k _ _ (.inl rfl) e⟩
 |frz ob u ih=>obtain⟨e,q⟩:=x;exact⟨k _ _ (.inl rfl) e,ih q⟩
 |tbl ps=>obtain⟨qs,e,tr,c⟩:=x;refine⟨qs,k _ _ (.inl rfl) e,tr,λpos cv q=>?_⟩;obtain⟨c',o',vs,tk,e1,e2,e3⟩:=c pos cv q;exact⟨c',o',vs,tk,e1,hz _ _ _ e2,e3⟩
 |met f y=>have e:h.get? a=some (W.methodObj (.ref f) (.ref y)):=x;show h'.get? a=some (W.methodObj (.ref f) (.ref y));exact k a _ (.inl rfl) e
 |ext φ=>obtain⟨p,⟨o,e⟩,st⟩:=x;exact⟨st _ _ p λo q=>k _ _ (.inl rfl) q,⟨o,k _ _ (.inl rfl) e⟩,st⟩
def HOk.lt(x:HOk P w H h)(e:H a=some o):a<h.objs.size:=(x a o e).lt
def HOk.fresh(x:HOk P w H h)(e:h.objs.size<=a):H a=none:=by
 cases q:H a with
 |none=>rfl
 |some u=>exact absurd (Nat.lt_of_lt_of_le (x.lt q) e) (Nat.lt_irrefl _)
def HOk.kept(x:HOk P w H h)(k:∀b u,h.get? b=some u->h'.get? b=some u):HOk P w H h':=λa o e=>(x a o e).stay (λb u _ q=>k b u q) (λ_ q=>q) λ_ _ q=>q
def HOk.laid(x:HOk P w H h)(k:∀b u,h.get? b=some u->h'.get? b=some u)(hp:h.objs.size<=a)(new:ObjOk P w (upd H a o) h' a o):HOk P w (upd H a o) h':=λb u e=>by
 have hn:=x.fresh hp;by_cases hb:b=a;·subst hb;rw[aS]at e;cases e;exact new
 ·rw[aH hb]at e;exact(x b u e).stay (λc v _ q=>k c v q) (λc q=>by rw[aH (aP q hn)];exact q) (λc xs q=>by rw[aH (aP q hn)];exact q) λc ob u q=>by rw[aH (aP q hn)];exact q
end
noncomputable def Rd(H:Hp)(a:Addr)(u:HO):Prop:=H a=some u\/∃o,H a=some (.frz o u)
def Rd.ok{w:World}{H:Hp}{u:HO}(r:Rd H a u)(x:HOk P w H h):ObjOk P w H h a u:=by
 rcases r with r|⟨o,r⟩;·exact x a u r
 ·obtain⟨_,q⟩:=x a _ r;exact q
noncomputable def Mut:Option HO->Prop
 |some (.lst _)=>True
 |some (.dK _)=>True
 |some (.dT _)=>True
 |some (.set _ _)=>True
 |some (.ins _ _ _)=>True
 |some (.ext _)=>True
 |_=>False
section
variable{w:World}{H:Hp}{x e:Addr}{o':HO}
def HOk.write(ok:HOk P w H h)(mu:Mut (H x))(he:e=x\/H e=some (.own x))(k:∀b u,b≠e->h.get? b=some u->h'.get? b=some u)(heo:∃u,h'.get? e=some u)(new:ObjOk P w (upd H x o') h' x o'):HOk P w (upd H x o') h':=λb u q=>by
 have nown:∀c y,H c=some (.own y)->c≠x:=λc y r z=>by subst z;rw[r]at mu;exact mu
 have ntup:∀c xs,H c=some (.tup xs)->c≠x:=λc xs r z=>by subst z;rw[r]at mu;exact mu
 have nfrz:∀c ob u,H c=some (.frz ob u)->c≠x:=λc ob u r z=>by subst z;rw[r]at mu;exact mu
 by_cases hb:b=x;·subst hb;rw[aS]at q;cases q;exact new
 ·rw[aH hb]at q;by_cases hbe:b=e
  ·have q':H b=some (.own x):=by
    rcases he with z|z;·exact absurd (hbe.trans z) hb
    ·rw[hbe];exact z
   rw[q]at q';cases q';obtain⟨v,hv⟩:=heo;exact⟨v,by rw[hbe];exact hv⟩
  ·refine(ok b u q).stay (λc v hc r=>k c v ?_ r) (λc r=>by rw[aH (nown c b r)];exact r) (λc xs r=>by rw[aH (ntup c xs r)];exact r) λc ob u r=>by rw[aH (nfrz c ob u r)];exact r
   rcases hc with rfl|hc;·exact hbe
   ·rintro rfl;rcases he with z|z;·exact nown c b hc z
    ·rw[hc]at z;cases z;exact hb rfl
end
structure Un(fs ex:List Addr)(H H':Hp)(h h':Heap):Prop where
 keep:∀b o,h.get? b=some o->H b=none->b∉fs->b∉ex->h'.get? b=some o
 slot:∀b o,h.get? b=some o->H b=none->b∈fs->b∉ex->∃sl,h'.get? b=some { o with slots:=sl }
 free:∀b o,h.get? b=some o->H b=none->b∉ex->H' b=none
 there:∀b o,h.get? b=some o->b∉ex->∃o',h'.get? b=some o'
 tups:∀b xs,H b=some (.tup xs)->H' b=some (.tup xs)
 frzs:∀b o u,H b=some (.frz o u)->H' b=some (.frz o u)
 tbls:∀b ps,H b=some (.tbl ps)->∃more,H' b=some (.tbl (ps++more))
section
variable{fs fs' ex ex':List Addr}{H H1 H2:Hp}{h1 h2:Heap}{x e:Addr}{o:HO}
def Un.any(u:Un fs ex H H1 h h1){ob:Obj}(q:h.get? b=some ob)(n:H b=none)(hx:b∉ex):∃sl,h1.get? b=some { ob with slots:=sl }:=by
 by_cases hb:b∈fs;·exact u.slot b ob q n hb hx
 ·exact⟨ob.slots,u.keep b ob q n hb hx⟩
def Un.kept(k:∀b u,h.get? b=some u->h'.get? b=some u):Un fs ex H H h h':=
 ⟨λb ob q _ _ _=>k b ob q,λb ob q _ _ _=>⟨ob.slots,k b ob q⟩,λ_ _ _ n _=>n,λb ob q _=>⟨ob,k b ob q⟩,λ_ _ q=>q,λ_ _ _ q=>q,λ_ ps q=>⟨#[],by rw[q];simp⟩⟩
def Un.refl:Un fs ex H H h h:=Un.kept λ_ _ q=>q
def Un.laid(k:∀b u,h.get? b=some u->h'.get? b=some u)(hp:h.objs.size<=a)(hn:H a=none):Un fs ex H (upd H a o) h h' where
 keep:=λb u q _ _ _=>k b u q
 slot:=λb u q _ _ _=>⟨u.slots,k b u q⟩
 free:=λb u q n _=>by rw[aH (Nat.ne_of_lt (Nat.lt_of_lt_of_le (Heap.lt_size q) hp))];exact n
 there:=λb u q _=>⟨u,k b u q⟩
 tups:=λb xs q=>by rw[aH (aP q hn)];exact q
 frzs:=λb u xs q=>by rw[aH (aP q hn)];exact q
 tbls:=λb ps q=>⟨#[],by rw[aH (aP q hn),q];simp⟩
def Un.write(mu:Mut (H x))(he:e=x\/H e=some (.own x))(k:∀b u,b≠e->h.get? b=some u->h'.get? b=some u)(heo:∃u,h'.get? e=some u):Un fs ex H (upd H x o) h h':=by
 have hx:∀b,H b=none->b≠x:=λb n z=>by subst z;rw[n]at mu;exact mu
 have hb:∀b,H b=none->b≠e:=λb n z=>by
  subst z;rcases he with r|r;·exact hx b n r
  ·rw[n]at r;cases r
 have hm:∀b u,H b=some u->¬ Mut (some u)->b≠x:=λb u q nm z=>by subst z;rw[q]at mu;exact nm mu
 refine⟨λb u q n _ _=>k b u (hb b n) q,λb u q n _ _=>⟨u.slots,k b u (hb b n) q⟩,λb u q n _=>by rw[aH (hx b n)];exact n,λb u q _=>?_,
  λb xs q=>by rw[aH (hm b _ q λz=>z)];exact q,λb u xs q=>by rw[aH (hm b _ q λz=>z)];exact q,λb ps q=>⟨#[],by rw[aH (hm b _ q λz=>z),q];simp⟩⟩;by_cases hbe:b=e;·subst hbe;exact heo
 ·exact⟨u,k b u hbe q⟩
end
noncomputable def DR:HO->Value
 |.tbl ps=>if ps.size=1 then ps.getD 0 .none else .none
 |_=>.none
noncomputable def FW(H:Hp)(b:Addr)(o:Obj):Obj:=match H b with
 |none=>(match o.data with|.freed=>⟨.none,none,.freed,#[]⟩|_=>o)
 |some u=>⟨DR u,none,.freed,#[]⟩
noncomputable def wo(h:Heap)(H:Hp):Heap:=⟨h.objs.mapIdx λb o=>FW H b o,h.life⟩
def yO(h:Heap)(H:Hp):(wo h H).objs.size=h.objs.size:=Array.size_mapIdx
def get_objs:h.get? b=some o ↔ h.objs[b]?=some o/\o.data≠.freed:=by
 unfold Heap.get?;constructor
 ·intro e;split at e;·cases e
  ·rename_i z;refine⟨e,λq=>?_⟩;obtain⟨a,b,c,d⟩:=o;cases q;exact z _ _ _ e
 ·rintro ⟨e,n⟩;rw[e];obtain⟨a,b,c,d⟩:=o;split;·rename_i q;cases q;exact absurd rfl n
  ·rfl
def jS(h:Heap)(H:Hp)(b:Addr):(wo h H).objs[b]?=(h.objs[b]?).map (FW H b):=Array.getElem?_mapIdx
def AZ{H:Hp}(e:h.get? b=some o)(n:H b=none):(wo h H).get? b=some o:=by
 obtain⟨e1,e2⟩:=get_objs.1 e;have z:FW H b o=o:=by unfold FW;rw[n];cases q:o.data <;> first|rfl|exact absurd q e2
 exact get_objs.2 ⟨by rw[jS,e1,Option.map_some,z],e2⟩
def En{H:Hp}(e:(wo h H).get? b=some o):h.get? b=some o/\H b=none:=by
 obtain⟨e1,e2⟩:=get_objs.1 e;rw[jS]at e1;cases q:h.objs[b]? with
 |none=>rw[q]at e1;cases e1
 |some o'=>
  rw[q,Option.map_some]at e1;have e1:=Option.some.inj e1;unfold FW at e1;cases hq:H b with
  |none=>
   rw[hq]at e1;dsimp only at e1;split at e1;·rw[<- e1]at e2;exact absurd rfl e2
   ·exact⟨get_objs.2 ⟨by rw[q,e1],e2⟩,rfl⟩
  |some u=>rw[hq]at e1;dsimp only at e1;rw[<- e1]at e2;exact absurd rfl e2
noncomputable def xV(base:Heap)(p:Addr)(q:Str):Prop:=base.objs[p]?=some ⟨.str q 0,none,.freed,#[]⟩
noncomputable def TabsIn(base:Heap)(H:Hp):Prop:=∀p q,xV base p q->∃more,H p=some (.tbl (#[.str q 0]++more))
def CM{H:Hp}{q:Str}(e:h.objs[p]?=some o)(t:H p=some (.tbl #[.str q 0])):xV (wo h H) p q:=by unfold xV;rw[jS,e,Option.map_some];unfold FW;rw[t];rfl
def Au(h : Heap)(H : Hp): TabsIn (wo h H) H := λp q e => by
  unfold xV at e;rw[jS]at e;cases z : h.objs[p]? with
  |none => rw[z]at e; cases e
  |some o =>
    rw[z, Option.map_some]at e;have e := Option.some.inj e;unfold FW at e;cases hq : H p with
    |none =>
      rw[hq]at e;dsimp only at e;split at e;· cases e
      · rename_i n; rw[e]at n; exact absurd rfl n
    |some u =>
      rw[hq]at e;have e := congrArg Obj.cls e;cases u with
      |tbl ps =>
        dsimp only[DR]at e;split at e
        · rename_i n;refine⟨#[], ?_⟩;obtain⟨l⟩ := ps
          match l, n with
          | [v], _ => have : v = .str q 0 := e
                      rw[this]; rfl
        · cases e
      |_ => cases e
def TabsIn.un{base:Heap}{fs ex:List Addr}{H H':Hp}(t:TabsIn base H)(u:Un fs ex H H' h h'):TabsIn base H':=λp q e=>by obtain⟨m1,z⟩:=t p q e;obtain⟨m2,z⟩:=u.tbls p _ z;exact⟨m1++m2,by rw[z,Array.append_assoc]⟩
noncomputable def Ey(g h:Heap)(L:Addr):List (Addr×Obj):=(List.range h.objs.size).filterMap λa=>if a=L\/(g.get? a).isSome=true then none else (h.get? a).map λo=>(a,o)
noncomputable def dj(g h:Heap)(L d:Addr):List (Addr×Obj):=(Ey g h L).filter λp=>decide (p.1≠d)
end L2
variable{xs vs:List L2.V}{H H' G G₀:L2.Hp}{v:L2.V}{sq:L2.Hp->List L2.V->Prop}
namespace L2
open PySem PySem.Spec PyProof.Rows
structure Mod(K:W.Frag)(mg:Str->Option Value)(base:Heap):Prop where
 kin:K.In base
 glob:base.Ns mainGlobals mg
 blt:∃mb,base.Ns builtinsNs mb/\∀x:Str,x≠"__name__"->mb x=bootBuiltins x
 nolimit:base.NoLimit
structure Cx where
 prog:Program
 w:World
 K:W.Frag
 mg:Str->Option Value
 base:Heap
 A:Around
 N:List Str
 s₀:Shared
 H₀:Hp
 env:Env
 outer:List Env
 stack:List Env
 ex:List Addr
 fn:Str->Bool
 calm:Bool
 pn:List (Addr×Obj)
 xe:Value->Shared->Prop
noncomputable def frs(l:List Env):List Addr:=l.filterMap (·.frame)
noncomputable abbrev Cx.fs(X:Cx):List Addr:=frs X.outer
noncomputable def Vis(sc:Scope)(x:Str):Prop:=sc.names.lookup x=some .local\/sc.names.lookup x=some .cell\/sc.names.lookup x=some .free
noncomputable def Loc(sc:Scope)(x:Str):Prop:=sc.names.lookup x=some .local\/sc.names.lookup x=some .cell
noncomputable def M2(env:Env)(h:Heap)(m:Str->Option Value)(x:Str)(u:Value):Prop:=
 (env.kindOf x=some .local/\m x=some u)\/((env.kindOf x=some .cell\/env.kindOf x=some .free)/\∃c,env.cells.lookup x=some c/\h.IsCell c (some u))
structure Cx.Ok(X:Cx):Prop where
 mod:Mod X.K X.mg X.base
 kind:X.env.scope.kind=.function
 glob:X.env.globals=mainGlobals
 blt:X.env.builtins=builtinsNs
 above:X.s₀.heap.objs.size<=X.env.locals
 inj:∀x y c,X.env.cells.lookup x=some c->X.env.cells.lookup y=some c->x=y
 has:∀x,(X.env.kindOf x=some .cell\/X.env.kindOf x=some .free)->∃c,X.env.cells.lookup x=some c
 cab:∀x c,X.fn x=true->X.env.cells.lookup x=some c->X.s₀.heap.objs.size<=c
 hd:X.calm=true->X.A.handled=none
 frames:X.A.frames=some X.stack
 stk:X.stack=X.outer\/(X.stack=X.env::X.outer/\X.env.frame=some X.env.locals)
 exf:∀b∈X.ex,b≠X.env.locals/\∀x c,X.env.cells.lookup x=some c->c≠b
 bs:∀b o,X.base.get? b=some o->X.s₀.heap.get? b=some o/\X.H₀ b=none
 bsz:X.base.objs.size<=X.s₀.heap.objs.size
 noex:∀b o,X.base.get? b=some o->b∉X.ex
 exfs:∀b∈X.ex,b∉X.fs
 funs:X.s₀.heap.FunFrames X.base X.outer
 frf:∀b∈X.fs,X.H₀ b=none
 tabs:TabsIn X.base X.H₀
structure Inv(X:Cx)(pins:List (Addr×Obj))(σ:List (Option V))(H:Hp)(s:Shared):Prop where
 ok:X.Ok
 os:s.os=X.s₀.os
 bare:AllBare s.gens
 base:Un X.fs X.ex X.H₀ H X.s₀.heap s.heap
 loc:∃m,s.heap.Ns X.env.locals m/\∀(i:Nat)(x:Str)(v:V),X.N[i]?=some x->σ[i]?=some (some v)->Vis X.env.scope x->∃u,RelV v u/\M2 X.env s.heap m x u
 cell:∀x c,X.env.cells.lookup x=some c->∃v,s.heap.IsCell c v
 free:H X.env.locals=none
 freeC:∀x c,X.env.cells.lookup x=some c->H c=none
 pin:∀p∈X.pn++pins,s.heap.get? p.1=some p.2/\H p.1=none/\p.1≠X.env.locals/\p.1∉X.fs/\∀v,p.2.data≠.cell v
 hok:HOk X.prog X.w H s.heap
 len:σ.length=X.N.length
section
variable{X:Cx}{σ:List (Option V)}
def Cx.Ok.nofr(ok:X.Ok)(e:X.base.get? b=some o):b∉X.fs:=λhb=>by have:=(ok.funs.mem hb).1;rw[e]at this;cases this
def Inv.bs(I:Inv X pins σ H s):∀b o,X.base.get? b=some o->s.heap.get? b=some o/\H b=none:=λb o e=>⟨I.base.keep b o (I.ok.bs b o e).1 (I.ok.bs b o e).2 (I.ok.nofr e) (I.ok.noex b o e),I.base.free b o (I.ok.bs b o e).1 (I.ok.bs b o e).2 (I.ok.noex b o e)⟩
def Inv.bk(I:Inv X pins σ H s):∀b o,X.base.get? b=some o->s.heap.get? b=some o:=λb o e=>(I.bs b o e).1
def Inv.mod(I:Inv X pins σ H s):Mod X.K X.mg X.base:=I.ok.mod
def Inv.kIn(I:Inv X pins σ H s):X.K.In s.heap:=I.ok.mod.kin.keeps I.bk
def Inv.nolimit(I:Inv X pins σ H s):s.heap.NoLimit:=I.ok.mod.nolimit.keeps I.bk
def Inv.lt(I:Inv X pins σ H s):X.env.locals<s.heap.objs.size:=let⟨_,hn,_⟩:=I.loc;hn.lt
def Inv.sz(I:Inv X pins σ H s):X.s₀.heap.objs.size<=s.heap.objs.size:=Nat.le_trans I.ok.above (Nat.le_of_lt I.lt)
def Inv.nofs(I:Inv X pins σ H s)(h:s.heap.objs.size<=a):a∉X.fs:=λhb=>by obtain⟨_,o,ho,_⟩:=I.ok.funs.mem hb;exact absurd (Nat.lt_of_lt_of_le (Heap.lt_size ho) (Nat.le_trans I.sz h)) (Nat.lt_irrefl _)
def Inv.cne(I:Inv X pins σ H s):∀x c,X.env.cells.lookup x=some c->c≠X.env.locals:=λx c e z=>by obtain⟨v,o,ho,hd⟩:=I.cell x c e;obtain⟨m,⟨o',es,ep,ho',hd',_⟩,_⟩:=I.loc;rw[z,ho']at ho;cases ho;rw[hd']at hd;cases hd
def Inv.funs(I:Inv X pins σ H s):s.heap.FunFrames X.base X.outer:=by
 have all:∀(l:List Env),(∀b∈frs l,b∈X.fs)->X.s₀.heap.FunFrames X.base l->s.heap.FunFrames X.base l:=by
  intro l;induction l with
  |nil=>intro _ _;trivial
  |cons env r ih=>intro hs hl;obtain⟨hk,⟨L,o,hf,hn,ho,hd⟩,hr⟩:=hl;have hL:L∈X.fs:=hs L (by unfold frs;rw[List.filterMap_cons,hf];exact List.mem_cons_self);obtain⟨sl,e⟩:=I.base.slot L o ho (I.ok.frf L hL) hL λz=>I.ok.exfs L z hL;exact⟨hk,⟨L,_,hf,hn,e,hd⟩,ih (λb hb=>hs b (by unfold frs;rw[List.filterMap_cons,hf];exact List.mem_cons_of_mem _ hb)) hr⟩
 exact all X.outer (λ_ hb=>hb) I.ok.funs
def Inv.stack(I:Inv X pins σ H s):s.heap.FunFrames X.base X.stack:=by
 rcases I.ok.stk with e|⟨e,hf⟩;·rw[e];exact I.funs
 ·rw[e];obtain⟨m,hn,_⟩:=I.loc;refine .cons (by rw[I.ok.kind];decide) hf hn ?_ I.funs;exact Heap.get?_none_of_le (Nat.le_trans I.ok.bsz I.ok.above)
def Inv.stkSub(I:Inv X pins σ H s):∀b∈frs X.stack,b∈X.env.locals::X.fs:=λb hb=>by
 rcases I.ok.stk with e|⟨e,hf⟩;·rw[e]at hb;exact List.mem_cons_of_mem _ hb
 ·rw[e]at hb;unfold frs at hb;rw[List.filterMap_cons,hf]at hb;exact hb
def Inv.stkFree(I:Inv X pins σ H s):∀b∈frs X.stack,H b=none:=λb hb=>by
 rcases List.mem_cons.mp (I.stkSub b hb)with e|hb;·rw[e];exact I.free
 ·obtain⟨_,o,ho,_⟩:=I.ok.funs.mem hb;exact I.base.free b o ho (I.ok.frf b hb) λz=>I.ok.exfs b z hb
def Inv.step{g':Array GenState}{t':Nat}{d':Drawn}(I:Inv X pins σ H s)(hch:∀b∈ch,(b∈X.ex\/X.s₀.heap.objs.size<=b)/\b≠X.env.locals/\(∀x c,X.env.cells.lookup x=some c->c≠b)/\∀p∈X.pn++pins,p.1≠b)(keep:∀b o,b≠X.env.locals->b∉X.fs->b∉ch->s.heap.get? b=some o->H b=none->h'.get? b=some o)(slot:∀b o,b≠X.env.locals->b∈X.fs->b∉ch->s.heap.get? b=some o->H b=none->∃sl,h'.get? b=some { o with slots:=sl })(free:∀b o,b∉ch->s.heap.get? b=some o->H b=none->H' b=none)(there:∀b o,b∉ch->s.heap.get? b=some o->∃o',h'.get? b=some o')(tups:∀b xs,H b=some (.tup xs)->H' b=some (.tup xs))(frzs:∀b o u,H b=some (.frz o u)->H' b=some (.frz o u))(tbls:∀b ps,H b=some (.tbl ps)->∃more,H' b=some (.tbl (ps++more)))(ns:∀m,s.heap.Ns X.env.locals m->h'.Ns X.env.locals m)(hok:HOk X.prog X.w H' h')(hg:AllBare g'):
  Inv X pins σ H' { s with heap:=h',gens:=g',drawn:=d',toks:=t' }:=by
 have neL:∀b o,X.s₀.heap.get? b=some o->b≠X.env.locals:=λb o e=>Nat.ne_of_lt (Nat.lt_of_lt_of_le (Heap.lt_size e) I.ok.above);have neC:∀b o,X.s₀.heap.get? b=some o->b∉X.ex->b∉ch:=λb o e hx hb=>by
  rcases (hch b hb).1 with z|z;·exact hx z
  ·exact absurd (Nat.lt_of_lt_of_le (Heap.lt_size e) z) (Nat.lt_irrefl _)
 have cellK:∀x c,X.env.cells.lookup x=some c->∀v,s.heap.IsCell c v->h'.IsCell c v:=λx c e v ⟨o,ho,hd⟩=>by
  have nch:c∉ch:=λz=>(hch c z).2.2.1 x c e rfl;by_cases hc:c∈X.fs;·obtain⟨sl,q⟩:=slot c o (I.cne x c e) hc nch ho (I.freeC x c e);exact⟨_,q,hd⟩
  ·exact⟨o,keep c o (I.cne x c e) hc nch ho (I.freeC x c e),hd⟩
 refine⟨I.ok,I.os,hg,⟨λb o e n hb hx=>?_,λb o e n hb hx=>?_,λb o e n hx=>?_,λb o e hx=>?_,λb xs e=>tups b xs (I.base.tups b xs e),λb o xs e=>frzs b o xs (I.base.frzs b o xs e),λb ps e=>?_⟩,?_,λx c e=>?_,?_,λx c e=>?_,λp hp=>?_,hok,I.len⟩;·exact keep b o (neL b o e) hb (neC b o e hx) (I.base.keep b o e n hb hx) (I.base.free b o e n hx)
 ·obtain⟨sl,e1⟩:=I.base.slot b o e n hb hx;obtain⟨sl',e2⟩:=slot b _ (neL b o e) hb (neC b o e hx) e1 (I.base.free b o e n hx);exact⟨sl',e2⟩
 ·obtain⟨o',e1⟩:=I.base.there b o e hx;exact free b o' (neC b o e hx) e1 (I.base.free b o e n hx)
 ·obtain⟨o',e1⟩:=I.base.there b o e hx;exact there b o' (neC b o e hx) e1
 ·obtain⟨m1,e1⟩:=I.base.tbls b ps e;obtain⟨m2,e2⟩:=tbls b _ e1;exact⟨m1++m2,by rw[e2,Array.append_assoc]⟩
 ·obtain⟨m,hn,hl⟩:=I.loc;refine⟨m,ns m hn,λi x v e1 e2 e3=>?_⟩;obtain⟨u,r,l⟩:=hl i x v e1 e2 e3;refine⟨u,r,?_⟩;rcases l with l|⟨k,c,e,z⟩;·exact .inl l
  ·exact .inr ⟨k,c,e,cellK x c e _ z⟩
 ·obtain⟨v,z⟩:=I.cell x c e;exact⟨v,cellK x c e v z⟩
 ·obtain⟨m,⟨o,_,_,ho,_⟩,_⟩:=I.loc;exact free _ o (λz=>(hch _ z).2.1 rfl) ho I.free
 ·obtain⟨v,o,ho,hd⟩:=I.cell x c e;exact free c o (λz=>(hch c z).2.2.1 x c e rfl) ho (I.freeC x c e)
 ·obtain⟨e,n,ne,nf,d⟩:=I.pin p hp;have nch:p.1∉ch:=λz=>(hch p.1 z).2.2.2 p hp rfl;exact⟨keep p.1 p.2 ne nf nch e n,free p.1 p.2 nch e n,ne,nf,d⟩
def Inv.un{t':Nat}(I:Inv X pins σ H s)(u:Un X.fs [] H H' s.heap h')(hok:HOk X.prog X.w H' h'):Inv X pins σ H' { s with heap:=h',toks:=t' }:=by obtain⟨m,⟨o,es,ep,ho,r⟩,_⟩:=id I.loc;obtain⟨sl,hL⟩:=u.any ho I.free (by simp);exact I.step (g':=s.gens) (d':=s.drawn) (ch:=[]) (λ_ z=>nomatch z) (λb o _ hb _ e n=>u.keep b o e n hb (by simp)) (λb o _ hb _ e n=>u.slot b o e n hb (by simp)) (λb o _ e n=>u.free b o e n (by simp)) (λb o _ e=>u.there b o e (by simp)) u.tups u.frzs u.tbls (λm' hm=>by obtain⟨o',es',ep',ho',r'⟩:=hm;rw[ho]at ho';cases ho';exact⟨_,es',ep',hL,r'⟩) hok I.bare
def Inv.call{g':Array GenState}{t':Nat}{d':Drawn}(I:Inv X pins σ H s)(u:Un (frs X.stack) ch H H' s.heap h')(hok:HOk X.prog X.w H' h')(hg:AllBare g')(hch:∀b∈ch,(b∈X.ex\/X.s₀.heap.objs.size<=b)/\b≠X.env.locals/\(∀x c,X.env.cells.lookup x=some c->c≠b)/\∀p∈X.pn++pins,p.1≠b):
  Inv X pins σ H' { s with heap:=h',gens:=g',drawn:=d',toks:=t' }:=by
 obtain⟨m,⟨o,es,ep,ho,r⟩,_⟩:=id I.loc;obtain⟨sl,hL⟩:=u.any ho I.free λz=>(hch _ z).2.1 rfl;exact I.step (ch:=ch) hch (λb o hL hb hc e n=>u.keep b o e n (λz=>(List.mem_cons.mp (I.stkSub b z)).elim hL hb) hc) (λb o _ _ hc e n=>u.any e n hc) (λb o hc e n=>u.free b o e n hc) (λb o hc e=>u.there b o e hc) u.tups u.frzs u.tbls (λm' hm=>by obtain⟨o',es',ep',ho',r'⟩:=hm;rw[ho]at ho';cases ho';exact⟨_,es',ep',hL,r'⟩) hok hg
def Inv.turned{t':Nat}(I:Inv X pins σ H s)(k:∀b o,b≠it->s.heap.get? b=some o->h'.get? b=some o)(hn:H it=none)(hL:it≠X.env.locals)(h1:it∈X.ex\/X.s₀.heap.objs.size<=it)(h2:∀x c,X.env.cells.lookup x=some c->c≠it)(h3:∀p∈X.pn++pins,p.1≠it):Inv X pins σ H { s with heap:=h',toks:=t' }:=by
 have nit:∀b u,H b=some u->b≠it:=λb u e z=>by rw[z,hn]at e;cases e
 refine I.step (g':=s.gens) (d':=s.drawn) (ch:=[it]) (λb hb=>?_) (λb o _ _ hc e _=>k b o (λz=>hc (by simp[z])) e) (λb o _ _ hc e _=>⟨o.slots,k b o (λz=>hc (by simp[z])) e⟩) (λ_ _ _ _ n=>n)
  (λb o hc e=>⟨o,k b o (λz=>hc (by simp[z])) e⟩) (λ_ _ e=>e) (λ_ _ _ e=>e) (λb ps e=>⟨#[],by rw[e];simp⟩) (λm hm=>?_) (λb u e=>?_) I.bare
 ·have e:b=it:=by simpa using hb
  subst e;exact⟨h1,hL,h2,h3⟩
 ·obtain⟨o,es,ep,ho,r⟩:=hm;exact⟨o,es,ep,k _ o (Ne.symm hL) ho,r⟩
 ·refine(I.hok b u e).stay (λc v hc q=>k c v ?_ q) (λ_ q=>q) λ_ _ q=>q;rcases hc with z|z;·rw[z];exact nit b u e
  ·exact nit c _ z
def Inv.tok(I:Inv X pins σ H s)(t:Nat):Inv X pins σ H { s with toks:=t }:=I.un (h':=s.heap) (t':=t) Un.refl I.hok
def Inv.kept{t':Nat}(I:Inv X pins σ H s)(k:∀b u,s.heap.get? b=some u->h'.get? b=some u):Inv X pins σ H { s with heap:=h',toks:=t' }:=I.un (Un.kept k) (I.hok.kept k)
def Inv.laid{o:HO}{t':Nat}(I:Inv X pins σ H s)(k:∀b u,s.heap.get? b=some u->h'.get? b=some u)(hp:s.heap.objs.size<=a)(new:ObjOk X.prog X.w (upd H a o) h' a o):
  Inv X pins σ (upd H a o) { s with heap:=h',toks:=t' }:=I.un (Un.laid k hp (I.hok.fresh hp)) (I.hok.laid k hp new)
def Inv.write{x e:Addr}{o:HO}{t':Nat}(I:Inv X pins σ H s)(mu:Mut (H x))(he:e=x\/H e=some (.own x))(k:∀b u,b≠e->s.heap.get? b=some u->h'.get? b=some u)(heo:∃u,h'.get? e=some u)(new:ObjOk X.prog X.w (upd H x o) h' x o):Inv X pins σ (upd H x o) { s with heap:=h',toks:=t' }:=I.un (Un.write mu he k heo) (I.hok.write mu he k heo new)
def Inv.pins_of{pins':List (Addr×Obj)}(I:Inv X pins σ H s)(h:∀p∈pins',s.heap.get? p.1=some p.2/\H p.1=none/\p.1≠X.env.locals/\p.1∉X.fs/\∀v,p.2.data≠.cell v):Inv X pins' σ H s:=
 ⟨I.ok,I.os,I.bare,I.base,I.loc,I.cell,I.free,I.freeC,λp hp=>(List.mem_append.mp hp).elim (λz=>I.pin p (List.mem_append_left _ z)) (h p),I.hok,I.len⟩
def wB{N:List Str}(hN:N.Nodup)(a:N[i]?=some x)(b:N[j]?=some x):i=j:=by obtain⟨h1,e1⟩:=List.getElem?_eq_some_iff.mp a;obtain⟨h2,e2⟩:=List.getElem?_eq_some_iff.mp b;exact(List.getElem_inj hN).mp (e1.trans e2.symm)
def sP{M:Model}{A:Around}{Q:Unit->Shared->Prop}(I:Inv X pins σ H s)(hN:X.N.Nodup)(hi:X.N[i]?=some x)(hx:Loc X.env.scope x)(r:RelV v u)(h:∀s',Inv X pins (σ.set i (some v)) H s'->(∃a,Heap.SameBut a s.heap s'.heap/\(a=X.env.locals\/X.env.cells.lookup x=some a))->Q () s')(hf:X.fn x=true\/X.env.scope.names.lookup x=some .local:=by first|exact .inl rfl|exact .inr rfl|assumption):wpAny M A (storeName X.env x u) Q E s:=by
 obtain⟨m,hn,hl⟩:=id I.loc;have hcls:(X.env.scope.kind==.class || (X.env.scope.kind==.module && X.env.locals != X.env.globals))=false:=by rw[I.ok.kind];rfl
 have hiσ:i<σ.length:=by rw[I.len];exact(List.getElem?_eq_some_iff.mp hi).1
 have cne:=I.cne;have tracked:∀{a:Addr}{h':Heap},(∃o,s.heap.get? a=some o/\H a=none)->Heap.SameBut a s.heap h'->HOk X.prog X.w H h':=λ{a h'} ha hs b ob e=>by
  obtain⟨_,_,hfree⟩:=ha;refine(I.hok b ob e).stay (λc w' hc q=>(hs.2 c ?_).trans q) (λ_ q=>q) λ_ _ q=>q;rintro rfl;rcases hc with rfl|hc;·rw[hfree]at e;cases e
  ·rw[hfree]at hc;cases hc
 rcases hx with hk|hk
 ·refine wpAny_storeName_local hk hn (λh' hn' hs=>?_) hcls;obtain⟨oL,_,_,hoL,_⟩:=id hn;refine h _ ⟨I.ok,I.os,I.bare,⟨λb o e n hb hx=>?_,λb o e n hb hx=>?_,I.base.free,λb o e hx=>?_,I.base.tups,I.base.frzs,I.base.tbls⟩,⟨_,hn',λj y v' e1 e2 e3=>?_⟩,λy c e=>?_,I.free,I.freeC,λp hp=>?_,tracked ⟨oL,hoL,I.free⟩ hs,by simpa using I.len⟩ ⟨_,hs,.inl rfl⟩;·exact(hs.2 b (Nat.ne_of_lt (Nat.lt_of_lt_of_le (Heap.lt_size e) I.ok.above))).trans (I.base.keep b o e n hb hx)
  ·obtain⟨sl,e1⟩:=I.base.slot b o e n hb hx;exact⟨sl,(hs.2 b (Nat.ne_of_lt (Nat.lt_of_lt_of_le (Heap.lt_size e) I.ok.above))).trans e1⟩
  ·obtain⟨o',e1⟩:=I.base.there b o e hx;exact⟨o',(hs.2 b (Nat.ne_of_lt (Nat.lt_of_lt_of_le (Heap.lt_size e) I.ok.above))).trans e1⟩
  ·by_cases hj:j=i;·subst hj;rw[hi]at e1;cases e1;rw[List.getElem?_set_self hiσ]at e2;cases e2;exact⟨u,r,.inl ⟨hk,by simp⟩⟩
   ·rw[List.getElem?_set_ne (Ne.symm hj)]at e2;obtain⟨u',r',q⟩:=hl j y v' e1 e2 e3;refine⟨u',r',?_⟩;rcases q with⟨k,e⟩|⟨k,c,e,z⟩
    ·refine .inl ⟨k,?_⟩;have:y≠x:=λe=>hj (wB hN e1 (e▸hi));simp[this,e]
    ·exact .inr ⟨k,c,e,z.sameBut hs (cne y c e)⟩
  ·obtain⟨w',z⟩:=I.cell y c e;exact⟨w',z.sameBut hs (cne y c e)⟩
  ·obtain⟨e,n,ne,nf,d⟩:=I.pin p hp;exact⟨(hs.2 p.1 ne).trans e,n,ne,nf,d⟩
 ·have hfn:X.fn x=true:=by
   rcases hf with z|z;·exact z
   ·rw[z]at hk;cases hk
  obtain⟨c,hc⟩:=I.ok.has x (.inl hk);obtain⟨w',z⟩:=I.cell x c hc;refine wpAny_storeName_cell I.ok.kind hk hc z (λh' hc' hs=>?_);obtain⟨oc,hoc,hocd⟩:=id z;refine h { s with heap:=h' } ⟨I.ok,I.os,I.bare,⟨λb o e n hb hx=>?_,λb o e n hb hx=>?_,I.base.free,λb o e hx=>?_,I.base.tups,I.base.frzs,I.base.tbls⟩,⟨m,hn.sameBut hs (Ne.symm (cne x c hc)),λj y v' e1 e2 e3=>?_⟩,λy c' e=>?_,I.free,I.freeC,λp hp=>?_,tracked ⟨oc,hoc,I.freeC x c hc⟩ hs,by simpa using I.len⟩ ⟨c,hs,.inr hc⟩;·exact(hs.2 b (Nat.ne_of_lt (Nat.lt_of_lt_of_le (Heap.lt_size e) (I.ok.cab x c hfn hc)))).trans (I.base.keep b o e n hb hx)
  ·obtain⟨sl,e1⟩:=I.base.slot b o e n hb hx;exact⟨sl,(hs.2 b (Nat.ne_of_lt (Nat.lt_of_lt_of_le (Heap.lt_size e) (I.ok.cab x c hfn hc)))).trans e1⟩
  ·obtain⟨o',e1⟩:=I.base.there b o e hx;exact⟨o',(hs.2 b (Nat.ne_of_lt (Nat.lt_of_lt_of_le (Heap.lt_size e) (I.ok.cab x c hfn hc)))).trans e1⟩
  ·by_cases hj:j=i;·subst hj;rw[hi]at e1;cases e1;rw[List.getElem?_set_self hiσ]at e2;cases e2;exact⟨u,r,.inr ⟨.inl hk,c,hc,hc'⟩⟩
   ·rw[List.getElem?_set_ne (Ne.symm hj)]at e2;obtain⟨u',r',q⟩:=hl j y v' e1 e2 e3;refine⟨u',r',?_⟩;rcases q with q|⟨k,c',e,z'⟩;·exact .inl q
    ·refine .inr ⟨k,c',e,z'.sameBut hs ?_⟩;rintro rfl;exact hj (wB hN e1 (I.ok.inj _ _ _ e hc▸hi))
  ·by_cases hcc:c'=c;·subst hcc;exact⟨_,hc'⟩
   ·obtain⟨w2,z2⟩:=I.cell y c' e;exact⟨w2,z2.sameBut hs hcc⟩
  ·obtain⟨e,n,ne,nf,d⟩:=I.pin p hp;refine⟨(hs.2 p.1 ?_).trans e,n,ne,nf,d⟩;intro q;rw[q,hoc]at e;have q':oc=p.2:=Option.some.inj e;exact d w' (by rw[<- q'];exact hocd)
def Bu{M:Model}{A:Around}{Q:Unit->Shared->Prop}(I:Inv X pins σ H s)(hN:X.N.Nodup)(hi:X.N[i]?=some x)(hx:Loc X.env.scope x)(r:RelV v u)(h:∀s',Inv X pins (σ.set i (some v)) H s'->Q () s')(hf:X.fn x=true\/X.env.scope.names.lookup x=some .local:=by first|exact .inl rfl|exact .inr rfl|assumption):wpAny M A (storeName X.env x u) Q E s:=
 sP I hN hi hx r (λs' I' _=>h s' I') hf
def Inv.call'(I:Inv X pins σ H s)(ho:s'.os=s.os)(u:Un (frs X.stack) ch H H' s.heap s'.heap)(hok:HOk X.prog X.w H' s'.heap)(hg:AllBare s'.gens)(hch:∀b∈ch,(b∈X.ex\/X.s₀.heap.objs.size<=b)/\b≠X.env.locals/\(∀x c,X.env.cells.lookup x=some c->c≠b)/\∀p∈X.pn++pins,p.1≠b):Inv X pins σ H' s':=by
 obtain⟨h',g',d',t',o'⟩:=s';have e:o'=s.os:=ho;subst e;exact I.call (g':=g') (t':=t') (d':=d') u hok hg hch
end
noncomputable abbrev XK:=Value->Option Addr->Hp->Prop
noncomputable abbrev St:=List (Option V)
noncomputable abbrev VK:=V->Hp->Prop
noncomputable abbrev TE:=St->Hp->VK->Prop
noncomputable abbrev TT:=St->Hp->(Bool->Hp->Prop)->Prop
noncomputable abbrev TA:=St->Hp->(List V->Hp->Prop)->Prop
structure Ends where
 nx:St->Hp->Prop
 rt:VK
 bk:St->Hp->Prop:=λ_ _=>False
 ct:St->Hp->Prop:=λ_ _=>False
noncomputable abbrev TS:=Ends->St->Hp->Prop
noncomputable def EP(X:Cx)(pins:List (Addr×Obj))(σ:St)(Q:VK)(u:Value)(s':Shared):Prop:=∃v H',Inv X pins σ H' s'/\RelV v u/\Q v H'
noncomputable def TP(X:Cx)(pins:List (Addr×Obj))(σ:St)(Q:Bool->Hp->Prop)(b:Bool)(s':Shared):Prop:=∃H',Inv X pins σ H' s'/\Q b H'
noncomputable def AP(X:Cx)(pins:List (Addr×Obj))(σ:St)(Q:List V->Hp->Prop)(us:List Value)(s':Shared):Prop:=∃vs H',Inv X pins σ H' s'/\Vals vs us/\Q vs H'
noncomputable def SP(X:Cx)(pins:List (Addr×Obj))(D:Ends)(f:Flow)(s':Shared):Prop:=
 match f with
 |.next=>∃σ' H',Inv X pins σ' H' s'/\D.nx σ' H'
 |.brk=>∃σ' H',Inv X pins σ' H' s'/\D.bk σ' H'
 |.cont=>∃σ' H',Inv X pins σ' H' s'/\D.ct σ' H'
 |.ret u=>∃v σ' H',Inv X pins σ' H' s'/\RelV v u/\D.rt v H'
noncomputable def PE(X:Cx)(e:Expr)(t:TE):Prop:=
 ∀(pins:List (Addr×Obj))(s:Shared)(σ:St)(H:Hp)(Q:VK),Inv X pins σ H s->t σ H Q->wpAny (model X.prog X.w) X.A (eval e X.env) (EP X pins σ Q) X.xe s
noncomputable def PT(X:Cx)(e:Expr)(t:TT):Prop:=
 ∀(pins:List (Addr×Obj))(s:Shared)(σ:St)(H:Hp)(Q:Bool->Hp->Prop),Inv X pins σ H s->t σ H Q->wpAny (model X.prog X.w) X.A (isTrue e X.env (eval e X.env)) (TP X pins σ Q) X.xe s
noncomputable def PW(X:Cx)(e:Expr)(t:TT):Prop:=
 ∀(whole:Sem Value)(pins:List (Addr×Obj))(s:Shared)(σ:St)(H:Hp)(Q:Bool->Hp->Prop),Inv X pins σ H s->t σ H Q->wpAny (model X.prog X.w) X.A (isTrue e X.env whole) (TP X pins σ Q) X.xe s
noncomputable def PA(X:Cx)(es:List Expr)(t:TA):Prop:=
 ∀(pos:Pos)(pins:List (Addr×Obj))(s:Shared)(σ:St)(H:Hp)(Q:List V->Hp->Prop),Inv X pins σ H s->t σ H Q->wpAny (model X.prog X.w) X.A (spliced (backTo pos (starEach es X.env))) (AP X pins σ Q) X.xe s
noncomputable def PS(X:Cx)(st:Stmt)(t:TS):Prop:=
 ∀(pins:List (Addr×Obj))(s:Shared)(σ:St)(H:Hp)(D:Ends),Inv X pins σ H s->t D σ H->wpAny (model X.prog X.w) X.A (exec st X.env) (SP X pins D) X.xe s
noncomputable def PSs(X:Cx)(st:List Stmt)(t:TS):Prop:=
 ∀(pins:List (Addr×Obj))(s:Shared)(σ:St)(H:Hp)(D:Ends),Inv X pins σ H s->t D σ H->wpAny (model X.prog X.w) X.A (execs st X.env) (SP X pins D) X.xe s
def thn{α:Type}{t:Sem α}{Q Q':α->Shared->Prop}{M:Model}{A:Around}(h:wpAny M A t Q E s)(hQ:∀a s,Q a s->Q' a s):wpAny M A t Q' E s:=wpAny_mono h hQ λ_ _ x=>x
end L2
variable{σ:L2.St}{X:L2.Cx}
namespace L2
open PySem PySem.Spec PyProof.Rows
section
noncomputable def DE(i:Nat):TE:=λσ H Q=>∃v,σ[i]?=some (some v)/\Q v H
noncomputable def tC(v:V):TE:=λ_ H Q=>Q v H
def dv(hN:X.N[i]?=some x)(hv:Vis X.env.scope x)(hd:(x==("__debug__":Str))=false:=by decide)(hcd:(x==("__classdict__":Str))=false:=by decide):PE X (.Name x pos) (DE i):=by
 intro pins s σ H Q I h;obtain⟨v,e,h⟩:=h;obtain⟨m,hn,hl⟩:=I.loc;obtain⟨u,r,l⟩:=hl i x v hN e hv;have fin:EP X pins σ Q u s:=⟨v,H,I,r,h⟩
 rcases l with⟨hk,hm⟩|⟨hk,c,hc,hcell⟩;·exact wpAny_Name (wpAny_loadName_local I.ok.kind hk hn hm fin) hd
 ·rcases hk with hk|hk;·exact wpAny_Name (wpAny_loadName_cell I.ok.kind hk hc hcell fin) hd
  ·exact wpAny_Name (wpAny_loadName_free I.ok.kind hk hc hcell fin hcd) hd
def HJ {i j pos}:PE X (.Constant (.int i) j pos) (tC (.int i)):=λ_ _ _ H _ I h=>wpAny_Constant_int ⟨.int i,H,I.tok _,⟨_,rfl⟩,h⟩
def Lr {b j pos}:PE X (.Constant (.bool b) j pos) (tC (.bl b)):=λ_ _ _ H _ I h=>Constant_bool ⟨.bl b,H,I,rfl,h⟩
def IX {j pos}:PE X (.Constant .none j pos) (tC .non):=λ_ _ _ H _ I h=>Constant_none ⟨.non,H,I,rfl,h⟩
def HK {x j pos}:PE X (.Constant (.str x) j pos) (tC (.str x)):=λ_ _ _ H _ I h=>Calls.Constant_str ⟨.str x,H,I.tok _,⟨_,rfl⟩,h⟩
noncomputable def Gl(X:Cx)(x:Str):Prop:=X.env.kindOf x=some .globalImplicit
def mv{Q:Value->Shared->Prop}(I:Inv X pins σ H s)(hg:Gl X x)(hm:X.mg x=some u)(h:Q u s)(hd:(x==("__debug__":Str))=false:=by decide):wpAny (model X.prog X.w) X.A (eval (.Name x pos) X.env) Q E s:=
 Calls.Name_function_global I.ok.kind hg (Calls.loadGlobal_global (by rw[I.ok.glob];exact I.mod.glob.keeps I.bk) hm h) hd
def jk{Q:Value->Shared->Prop}(I:Inv X pins σ H s)(hg:Gl X x)(hm:X.mg x=none)(hv:bootBuiltins x=some u)(h:Q u s)(hn:x≠"__name__":=by decide)(hd:(x==("__debug__":Str))=false:=by decide):wpAny (model X.prog X.w) X.A (eval (.Name x pos) X.env) Q E s:=by
 obtain⟨mb,h1,h2⟩:=I.mod.blt;exact Calls.Name_function_global I.ok.kind hg (Calls.loadGlobal_builtin (by rw[I.ok.glob];exact I.mod.glob.keeps I.bk) hm (by rw[I.ok.blt];exact h1.keeps I.bk) ((h2 x hn).trans hv) h) hd
def pw(hg:Gl X x)(hm:X.mg x=some u)(r:RelV v u)(hd:(x==("__debug__":Str))=false:=by decide):PE X (.Name x pos) (tC v):=
 λ_ _ _ H _ I h=>mv I hg hm ⟨v,H,I,r,h⟩ hd
def Eu(hg:Gl X x)(hm:X.mg x=none)(hv:bootBuiltins x=some u)(r:RelV v u)(hn:x≠"__name__":=by decide)(hd:(x==("__debug__":Str))=false:=by decide):PE X (.Name x pos) (tC v):=
 λ_ _ _ H _ I h=>jk I hg hm hv ⟨v,H,I,r,h⟩ hn hd
variable{a b:Expr}{ta tb:TE}
variable{tA tB':TT}{dj:List Expr}
noncomputable def tOr(t u:TT):TT:=λσ H Q=>t σ H λc H1=>if c=true then Q true H1 else u σ H1 Q
noncomputable def Nk(t:TT):TT:=λσ H Q=>t σ H λc H1=>Q (!c) H1
def GD(ha:PT X a tA):PW X (.BoolOp .Or [a] pos) tA:=by
 intro wh pins s σ H Q I h;refine isTrue_or (thn (ha pins s σ H Q I h) λc s1 e=>?_);cases c with
 |false=>exact isTrue_or_nil e
 |true=>exact e
def K8(ha:PT X a tA)(hb:PW X (.BoolOp .Or (b::dj) pos) tB'):PW X (.BoolOp .Or (a::b::dj) pos) (tOr tA tB'):=by
 intro wh pins s σ H Q I h;refine isTrue_or (thn (ha pins s σ H _ I h) λc s1 ⟨H1,I1,q1⟩=>?_);cases c with
 |true=>exact⟨H1,I1,q1⟩
 |false=>exact hb wh pins s1 σ H1 Q I1 q1
def Jh(ha:PT X a tA):PT X (.UnaryOp .Not a pos) (Nk tA):=by intro pins s σ H Q I h;exact isTrue_not (ha pins s σ H (λc H1=>Q (!c) H1) I h)
noncomputable def Lc(ta tb:TE):TE:=λσ H Q=>ta σ H λx H1=>∃c,x=.bl c/\if c=true then tb σ H1 Q else Q (.bl false) H1
noncomputable def Mw(ta tb:TE):TE:=λσ H Q=>ta σ H λx H1=>∃c,x=.bl c/\if c=true then Q (.bl true) H1 else tb σ H1 Q
noncomputable def KP(ta:TE):TE:=λσ H Q=>ta σ H λx H1=>∃c,x=.bl c/\Q (.bl (!c)) H1
def Gz {op} {t:TE} (h:PE X a t):PE X (.BoolOp op [a] pos) t:=λpins s σ H Q I hw=>BoolOp_one (h pins s σ H Q I hw)
def Jr(ha:PE X a ta)(hb:PE X (.BoolOp .And (b::dj) pos) tb):PE X (.BoolOp .And (a::b::dj) pos) (Lc ta tb):=by
 intro pins s σ H Q I h;refine BoolOp_and (thn (ha pins s σ H _ I h) λv s1 ⟨x,H1,I1,r1,q1⟩=>?_);obtain⟨c,rfl,q1⟩:=q1;cases r1;refine wpAny_truthy_bool ?_;cases c with
 |true=>exact hb pins s1 σ H1 Q I1 q1
 |false=>exact⟨.bl false,H1,I1,rfl,q1⟩
def KT(ha:PE X a ta)(hb:PE X (.BoolOp .Or (b::dj) pos) tb):PE X (.BoolOp .Or (a::b::dj) pos) (Mw ta tb):=by
 intro pins s σ H Q I h;refine BoolOp_or (thn (ha pins s σ H _ I h) λv s1 ⟨x,H1,I1,r1,q1⟩=>?_);obtain⟨c,rfl,q1⟩:=q1;cases r1;refine wpAny_truthy_bool ?_;cases c with
 |false=>exact hb pins s1 σ H1 Q I1 q1
 |true=>exact⟨.bl true,H1,I1,rfl,q1⟩
def Jd(ha:PE X a ta):PE X (.UnaryOp .Not a pos) (KP ta):=by intro pins s σ H Q I h;refine UnaryOp_ (thn (ha pins s σ H _ I h) λv s1 ⟨x,H1,I1,r1,q1⟩=>?_);obtain⟨c,rfl,q1⟩:=q1;cases r1;exact not_of (wpAny_truthy_bool ⟨.bl (!c),H1,I1,rfl,q1⟩)
noncomputable def tIf(t:TT)(ta tb:TE):TE:=λσ H Q=>t σ H λc H1=>if c=true then ta σ H1 Q else tb σ H1 Q
def Cu{c:Expr}(hc:PT X c tA)(ha:PE X a ta)(hb:PE X b tb):PE X (.IfExp c a b pos) (tIf tA ta tb):=by
 intro pins s σ H Q I h;refine wpAny_IfExp (thn (hc pins s σ H _ I h) λd s1 ⟨H1,I1,q1⟩=>?_);cases d with
 |true=>exact ha pins s1 σ H1 Q I1 q1
 |false=>exact hb pins s1 σ H1 Q I1 q1
end
noncomputable def SqL(K:W.Frag)(H:Hp)(a:Addr)(xs:List V):Prop:=
 Rd H a (.lst xs)\/
  ∃(o:Obj)(its:Array Value)(n:Nat),K.lookup a=some o/\o.cls=.type "list"/\o.dict=none/\o.data=.seq its n/\its.size<=sizeLine/\Vals xs its.toList
noncomputable def SqT(K:W.Frag)(H:Hp)(a:Addr)(xs:List V):Prop:=
 Rd H a (.tup xs)\/
  ∃(o:Obj)(its:Array Value)(n:Nat),K.lookup a=some o/\o.cls=.type "tuple"/\o.data=.seq its n/\its.size<=sizeLine/\Vals xs its.toList
noncomputable def NL:Value->Option V
 |.none=>some .non
 |.bool b=>some (.bl b)
 |.int i _=>some (.int i)
 |.str x _=>some (.str x)
 |.bytes b _=>some (.byt b)
 |.float b _=>some (.flt b)
 |.ref a=>some (.ref a)
 |.type n=>some (.ty n)
 |_=>none
def RelV.abs{x:V}(r:RelV x u):NL u=some x:=by
 cases x with
 |non=>cases r;rfl
 |bl _=>cases r;rfl
 |int _=>obtain⟨t,rfl⟩:=r;rfl
 |str _=>obtain⟨t,rfl⟩:=r;rfl
 |byt _=>obtain⟨t,rfl⟩:=r;rfl
 |flt _=>obtain⟨t,rfl⟩:=r;rfl
 |ref _=>cases r;rfl
 |ty _=>cases r;rfl
def RelV.inj{x y:V}(r:RelV x u)(q:RelV y u):x=y:=Option.some.inj (r.abs.symm.trans q.abs)
def Vals.inj:∀{xs ys:List V}{us:List Value},Vals xs us->Vals ys us->xs=ys
 |_,_,_,.nil,.nil=>rfl
 |_,_,_,.cons r t,.cons r' t'=>by rw[r.inj r',Vals.inj t t']
section
variable{ys:List V}
def SqL.of{K:W.Frag}(h:H a=some (.lst xs)):SqL K H a xs:=.inl (.inl h)
def SqT.of{K:W.Frag}(h:H a=some (.tup xs)):SqT K H a xs:=.inl (.inl h)
def Inv.list(I:Inv X pins σ H s)(h:SqL X.K H a xs):∃its:List Value,Vals xs its/\PlainL s.heap a its.toArray/\xs.length<=sizeLine:=by
 rcases h with h|⟨o,its,n,hk,hc,hd,hs,hz,r⟩;·obtain⟨z,its,n,r,e⟩:=h.ok I.hok;exact⟨its,r,⟨_,n,e,rfl,rfl,rfl⟩,z⟩
 ·refine⟨its.toList,r,⟨o,n,I.kIn a o hk,hc,hd,by simpa using hs⟩,?_⟩;have e:=r.length;simp only[Array.length_toList]at e;omega
def Inv.tuple(I:Inv X pins σ H s)(h:SqT X.K H a xs):∃its:List Value,Vals xs its/\IsTup s.heap a its.toArray/\xs.length<=sizeLine:=by
 rcases h with h|⟨o,its,n,hk,hc,hs,hz,r⟩;·obtain⟨z,its,r,p⟩:=h.ok I.hok;exact⟨its,r,p,z⟩
 ·refine⟨its.toList,r,⟨o,I.kIn a o hk,hc,n,by simpa using hs⟩,?_⟩;have e:=r.length;simp only[Array.length_toList]at e;omega
def Inv.list_inj(I:Inv X pins σ H s)(h:SqL X.K H a xs)(h':SqL X.K H a ys):xs=ys:=by
 obtain⟨its,r,⟨o,n,e,_,_,d⟩,_⟩:=I.list h;obtain⟨its',r',⟨o',n',e',_,_,d'⟩,_⟩:=I.list h';rw[e]at e';cases e';rw[d]at d';injection d' with d1 _;have:its=its':=by simpa using congrArg Array.toList d1
 subst this;exact r.inj r'
def Inv.tuple_inj(I:Inv X pins σ H s)(h:SqT X.K H a xs)(h':SqT X.K H a ys):xs=ys:=by
 obtain⟨its,r,⟨o,e,_,n,d⟩,_⟩:=I.tuple h;obtain⟨its',r',⟨o',e',_,n',d'⟩,_⟩:=I.tuple h';rw[e]at e';cases e';rw[d]at d';injection d' with d1 _;have:its=its':=by simpa using congrArg Array.toList d1
 subst this;exact r.inj r'
end
noncomputable abbrev Cx.wish(X:Cx)(E:Value->Shared->Prop):Cx:={ X with xe:=E }
section
variable{dj:List Stmt}{t u:TS}{e:Expr}{te:TE}
noncomputable def Kw:TS:=λD σ H=>D.nx σ H
noncomputable def NC(t u:TS):TS:=λD σ H=>t { D with nx:=u D } σ H
def FS:PSs X [] Kw:=λ_ _ σ H _ I h=>wpAny_execs_nil ⟨σ,H,I,h⟩
def jN(h1:PS X st t)(h2:PSs X dj u):PSs X (st::dj) (NC t u):=by
 intro pins s σ H D I h;refine wpAny_execs_cons (thn (h1 pins s σ H { D with nx:=u D } I h) λf s1 q=>?_);cases f with
 |next=>obtain⟨σ',H',I',q⟩:=q;exact h2 pins s1 σ' H' D I' q
 |ret v=>exact q
 |brk=>exact q
 |cont=>exact q
def Inv.quiet(I:Inv X pins σ H s):interactive X.env=false:=by simp[interactive,I.ok.kind]
noncomputable def Lq(te:TE):TS:=λD σ H=>te σ H λ_ H1=>D.nx σ H1
def jp(he:PE X e te)(hs:swapsWith e none pos.line X.env=pure false:=by rfl):PS X (.Expr e pos) (Lq te):=by intro pins s σ H D I h;exact wpAny_Expr_any (thn (he pins s σ H _ I h) λv s1 ⟨x,H1,I1,r1,q1⟩=>⟨σ,H1,I1,q1⟩) I.quiet hs
noncomputable def MV(te:TE):TS:=λD σ H=>te σ H D.rt
def Af(he:PE X e te):PS X (.Return (some e) pos) (MV te):=by intro pins s σ H D I h;exact wpAny_Return_some (thn (he pins s σ H _ I h) λv s1 ⟨x,H1,I1,r1,q1⟩=>⟨x,σ,H1,I1,r1,q1⟩)
noncomputable def NP(c:TT)(t u:TS):TS:=λD σ H=>c σ H λb H1=>if b=true then t D σ H1 else u D σ H1
def Lw{c:Expr}{a b:List Stmt}{tc:TT}(hc:PT X c tc)(ha:PSs X a t)(hb:PSs X b u):PS X (.If c a b pos) (NP tc t u):=by
 intro pins s σ H D I h;refine wpAny_If (thn (hc pins s σ H _ I h) λd s1 ⟨H1,I1,q1⟩=>?_);cases d with
 |true=>exact ha pins s1 σ H1 D I1 q1
 |false=>exact hb pins s1 σ H1 D I1 q1
end
noncomputable abbrev TG:=V->St->Hp->(St->Hp->Prop)->Prop
noncomputable abbrev TGs:=List V->St->Hp->(St->Hp->Prop)->Prop
noncomputable def PG(X:Cx)(target:Expr)(t:TG):Prop:=
 ∀(pins:List (Addr×Obj))(s:Shared)(σ:St)(H:Hp)(v:V)(u:Value)(Q:St->Hp->Prop),Inv X pins σ H s->RelV v u->t v σ H Q->
  wpAny (model X.prog X.w) X.A (assign target X.env u) (λ_ s'=>∃σ' H',Inv X pins σ' H' s'/\Q σ' H') X.xe s
noncomputable def PGs(X:Cx)(ts:List Expr)(t:TGs):Prop:=
 ∀(pins:List (Addr×Obj))(s:Shared)(σ:St)(H:Hp)(vs:List V)(us:List Value)(Q:St->Hp->Prop),Inv X pins σ H s->Vals vs us->t vs σ H Q->
  wpAny (model X.prog X.w) X.A (assignInOrder ((assignEach ts X.env).map (·.2)) us) (λ_ s'=>∃σ' H',Inv X pins σ' H' s'/\Q σ' H') X.xe s
noncomputable abbrev JN:=V->V->V->Hp->(Hp->Prop)->Prop
noncomputable def KU(X:Cx)(t:JN):Prop:=
 ∀(pins:List (Addr×Obj))(s:Shared)(σ:St)(H:Hp)(o i v:V)(ov iv u:Value)(Q:Hp->Prop),Inv X pins σ H s->RelV o ov->RelV i iv->RelV v u->t o i v H Q->
  wpAny (model X.prog X.w) X.A (setItem ov iv u) (λ_ s'=>∃H',Inv X pins σ H' s'/\Q H') X.xe s
section
noncomputable def KG(i:Nat):TG:=λv σ H Q=>Q (σ.set i (some v)) H
def fR(hN:X.N.Nodup)(hi:X.N[i]?=some x)(hx:Loc X.env.scope x)(hf:X.fn x=true\/X.env.scope.names.lookup x=some .local:=by first|exact .inl rfl|exact .inr rfl|assumption):PG X (.Name x pos) (KG i):=by intro pins s σ H v u Q I r h;exact wpAny_assign_Name (Bu I hN hi hx r (λs' I'=>⟨_,H,I',h⟩) hf)
noncomputable def MU:TGs:=λvs σ H Q=>vs=[]/\Q σ H
noncomputable def KS(t:TG)(u:TGs):TGs:=λvs σ H Q=>∃v r,vs=v::r/\t v σ H λσ' H'=>u r σ' H' Q
def zB:PGs X [] MU:=by intro pins s σ H vs us Q I r h;obtain⟨e,h⟩:=h;subst e;cases r;exact assignInOrder_nil ⟨σ,H,I,h⟩
def qG{e:Expr}{t:TG}{u:TGs}(h1:PG X e t)(h2:PGs X es u)(hs:(assignEach (e::es) X.env).map (·.2)=assign e X.env::(assignEach es X.env).map (·.2):=by rfl):PGs X (e::es) (KS t u):=by
 intro pins s σ H vs us Q I r h;obtain⟨v,vr,e1,h⟩:=h;subst e1;cases r with
 |cons r rr=>rw[hs];refine assignInOrder_cons (thn (h1 pins s σ H _ _ _ I r h) λ_ s1 ⟨σ1,H1,I1,q1⟩=>?_);exact h2 pins s1 σ1 H1 _ _ Q I1 rr q1
noncomputable def NG(K:W.Frag)(n:Nat)(t:TGs):TG:=λv σ H Q=>∃a xs,v=.ref a/\SqT K H a xs/\xs.length=n/\t xs σ H Q
def DY{t:TGs}{n:Nat}(hc:X.calm=true)(h:PGs X es t)(hn:(assignEach es X.env).length=n:=by rfl)(hst:(assignEach es X.env).findIdx? (·.1)=none:=by rfl):PG X (.Tuple es k pos) (NG X.K n t):=by
 intro pins s σ H v u Q I r hw;obtain⟨a,xs,e1,hq,hl,hw⟩:=hw;subst e1;cases r;obtain⟨its,rv,ht,hz⟩:=I.tuple hq;refine assign_Tuple_tuple (I.ok.hd hc) ht (by simp[hn,<- hl,rv.length]) hst λh' hx=>?_;have I1:Inv X pins σ H { s with heap:=h' }:=I.kept (t':=s.toks) λb o e=>hx b o (Nat.ne_of_lt (Heap.lt_size e)) e;exact h pins _ σ H xs _ Q I1 (by simpa using rv) hw
noncomputable def LY(to ti:TE)(t:JN):TG:=λv σ H Q=>to σ H λo H1=>ti σ H1 λi H2=>t o i v H2 λH3=>Q σ H3
def DD{o i:Expr}{to ti:TE}{t:JN}(ho:PE X o to)(hi:PE X i ti)(hs:KU X t)(ha:∀v,assign (.Subscript o i pos) X.env v=(do
 let ov <- holding [v] (eval o X.env);let iv <- holding [v,ov] (eval i X.env)
 standAt pos
 holding [v,ov,iv] (setItem ov iv v)
 release [v,ov,iv] []):=by intro _;rfl):PG X (.Subscript o i pos) (LY to ti t):=by
 intro pins s σ H v u Q I r h;rw[ha];refine wpAny_bind (wpAny_holding (thn (ho pins s σ H _ I h) λov s1 ⟨x,H1,I1,r1,q1⟩=>?_));refine wpAny_bind (wpAny_holding (thn (hi pins s1 σ H1 _ I1 q1) λiv s2 ⟨y,H2,I2,r2,q2⟩=>?_));refine wpAny_bind (wpAny_standAt (wpAny_bind (wpAny_holding (thn (hs pins s2 σ H2 x y v ov iv u _ I2 r1 r2 r q2) λ_ s3 ⟨H3,I3,q3⟩=>?_))));exact wpAny_release ⟨σ,H3,I3,q3⟩
noncomputable def MH(te:TE)(g:TG):TS:=λD σ H=>te σ H λx H1=>g x σ H1 D.nx
def jf{e:Expr}{te:TE}{g:TG}(he:PE X e te)(hg:PG X tg g)(hs:swapsWithSole [tg] e pos.line X.env=pure false:=by rfl)(hw:swappedStores [tg] e X.env=pure none:=by rfl)(h1:(assignEach [tg] X.env).map (·.2)=[assign tg X.env]:=by rfl):PS X (.Assign [tg] e pos) (MH te g):=by
 intro pins s σ H D I h;refine wpAny_Assign_stores (thn (he pins s σ H _ I h) λv s1 ⟨x,H1,I1,r1,q1⟩=>?_) hs hw;rw[h1];exact thn (hg pins s1 σ H1 x v _ I1 r1 q1) λ_ s2 q=>q
end
structure It where
 go:Nat->Hp->Prop
 yld:Nat->Hp->V->Hp->Prop
 stop:Nat->Hp->Prop
noncomputable def lN(X:Cx)(pins:List (Addr×Obj))(H:Hp)(b:Addr):Prop:=
 H b=none/\b≠X.env.locals/\b∉X.fs/\(b∈X.ex\/X.s₀.heap.objs.size<=b)/\(∀x c,X.env.cells.lookup x=some c->c≠b)/\∀p∈X.pn++pins,p.1≠b
def Inv.fpOk(I:Inv X pins σ H s)(hb:s.heap.objs.size<=b)(hn:H' b=none):lN X pins H' b:=by
 refine⟨hn,Nat.ne_of_gt (Nat.lt_of_lt_of_le I.lt hb),I.nofs hb,.inr (Nat.le_trans I.sz hb),λx c e z=>?_,λp hp z=>?_⟩;·obtain⟨v,q⟩:=I.cell x c e;exact absurd (Nat.lt_of_lt_of_le q.lt (by rw[z];exact hb)) (Nat.lt_irrefl _)
 ·exact absurd (Nat.lt_of_lt_of_le (Heap.lt_size (I.pin p hp).1) (by rw[z];exact hb)) (Nat.lt_irrefl _)
structure Turn(P:Program)(w:World)(K:W.Frag)(tg:Expr)(J:It)(fp:List Addr)(it:Addr)(tn:Nat->Heap->Prop):Prop where
 mem:it∈fp
 obj:∀i h,tn i h->∀b∈fp,∃o,h.get? b=some o/\∀v,o.data≠.cell v
 keep:∀i h h',tn i h->(∀b∈fp,∀o,h.get? b=some o->h'.get? b=some o)->tn i h'
 item:∀(X:Cx),X.prog=P->X.w=w->X.K=K->X.calm=true->∀(i:Nat)(pins:List (Addr×Obj))(s:Shared)(σ:St)(H:Hp)(E:Value->Shared->Prop),Inv X pins σ H s->(∀b∈fp,lN X pins H b)->tn i s.heap->J.go i H->
  wpAny (model P w) X.A (pyNext (.ref it)) (λr s1=>∃u,r=some u/\
   wpAny (model P w) X.A (letOwnedTupleGo tg (.ref it) u) (λ_ s2=>∃x H',Inv X pins σ H' s2/\RelV x u/\J.yld i H x H'/\tn (i+1) s2.heap/\∀b∈fp,H' b=none) E s1) E s
 done:∀(X:Cx),X.prog=P->X.w=w->X.K=K->X.calm=true->∀(i:Nat)(pins:List (Addr×Obj))(s:Shared)(σ:St)(H:Hp)(E:Value->Shared->Prop),Inv X pins σ H s->(∀b∈fp,lN X pins H b)->tn i s.heap->J.stop i H->
  wpAny (model P w) X.A (pyNext (.ref it)) (λr s1=>r=none/\Inv X pins σ H s1) E s
 self:∀(A:Around)(i:Nat)(s:Shared)(Q:Value->Shared->Prop)(E:Value->Shared->Prop),tn i s.heap->Q (.ref it) s->wpAny (model P w) A (pyIter (.ref it)) Q E s
noncomputable abbrev TI:=St->Hp->(It->Hp->Prop)->Prop
noncomputable def PIE(X:Cx)(pins:List (Addr×Obj))(σ:St)(tg:Expr)(R:It->Hp->Prop)(itv:Value)(s2:Shared):Prop:=
 ∃(it:Addr)(fp:List Addr)(tn:Nat->Heap->Prop)(J:It)(H':Hp),itv=.ref it/\Inv X pins σ H' s2/\Turn X.prog X.w X.K tg J fp it tn/\tn 0 s2.heap/\(∀b∈fp,lN X pins H' b)/\R J H'
noncomputable def PI(X:Cx)(tg iter:Expr)(wi:TI):Prop:=
 ∀(pins:List (Addr×Obj))(s:Shared)(σ:St)(H:Hp)(R:It->Hp->Prop),Inv X pins σ H s->wi σ H R->
  wpAny (model X.prog X.w) X.A (eval iter X.env) (λv s1=>wpAny (model X.prog X.w) X.A (pyIter v) (PIE X pins σ tg R) X.xe s1) X.xe s
def yL{M : Model}{A : Around}{n : String}{vs : Array Value}{Q : Unit -> Shared -> Prop}(ho : s.heap.get? it = some o)(hc : o.cls = .type n)(hd : o.data = .fields vs)(hn : ["enumerate", "zip", "dict_itemiterator", "dict_reverseitemiterator", "odict_iterator", "itertools.zip_longest", "itertools.pairwise"].contains n = false)(hQ : Q () s): wpAny M A (letOwnedTupleGo tg (.ref it) u) Q E s := by
  unfold letOwnedTupleGo;cases tg <;> first
    |exact wpAny_pure hQ
    | (cases u <;> first
        |exact wpAny_pure hQ
        | (refine wpAny_bind (wpAny_load ho ?_)
           rw[hc, hd];show wpAny M A (if (["enumerate", "zip", "dict_itemiterator", "dict_reverseitemiterator", "odict_iterator", "itertools.zip_longest", "itertools.pairwise"].contains n && vs[0]? == some (rawInt _)) = true then _ else _) Q E s;rw[if_neg (by intro h; rw[hn, Bool.false_and]at h; cases h)];exact wpAny_pure hQ))

noncomputable def Itl(K:W.Frag)(a:Addr):It:=
 ⟨λi H=>∃xs x,SqL K H a xs/\xs[i]?=some x,λi H x H'=>H'=H/\∀xs,SqL K H a xs->xs[i]?=some x,λi H=>∃xs,SqL K H a xs/\xs.length<=i⟩
noncomputable def Itt(K:W.Frag)(a:Addr):It:=
 ⟨λi H=>∃xs x,SqT K H a xs/\xs[i]?=some x,λi H x H'=>H'=H/\∀xs,SqT K H a xs->xs[i]?=some x,λi H=>∃xs,SqT K H a xs/\xs.length<=i⟩
noncomputable def Itr(lo:Int)(n:Nat):It:=⟨λi _=>i<n,λi H x H'=>H'=H/\x=.int (lo+i),λi _=>n<=i⟩
def zR{w:World}{K:W.Frag}(a it:Addr):Turn P w K tg (Itl K a) [it] it (λi h=>h.IsListIter it a i) where
 mem:=by simp
 obj:=λi h st b hb=>by
  have e:b=it:=by simpa using hb
  subst e;obtain⟨o,e,c,d⟩:=st;exact⟨o,e,λv z=>by rw[d]at z;cases z⟩
 keep:=λi h h' st k=>st.at λo e=>k it (by simp) o e
 item:=by intro X hP hw hK hc i pins s σ H E I hf st hg;subst hP hw hK;obtain⟨xs,x,hq,hx⟩:=hg;obtain⟨its,rv,p,hz⟩:=I.list hq;obtain⟨u,hu,ru⟩:=rv.get hx;obtain⟨f0,f1,f2,f3,f4,f5⟩:=hf it (by simp);refine wpAny_pyNext_list_item st p.isList (x:=u) (by simpa using hu) λh' st' sb=>?_;have I1:Inv X pins σ H { s with heap:=h' }:=I.turned (t':=s.toks) (λb o hb e=>(sb.2 b hb).trans e) f0 f1 f3 f4 f5;obtain⟨o,e,c,d⟩:=id st';exact⟨u,rfl,yL (s:={ s with heap:=h' }) e c d (by decide) ⟨x,H,I1,ru,⟨rfl,λys hy=>by rw[I.list_inj hy hq];exact hx⟩,st',λb hb=>(hf b hb).1⟩⟩
 done:=by intro X hP hw hK hc i pins s σ H E I hf st hg;subst hP hw hK;obtain⟨xs,hq,hx⟩:=hg;obtain⟨its,rv,p,hz⟩:=I.list hq;obtain⟨f0,f1,f2,f3,f4,f5⟩:=hf it (by simp);have hl:=rv.length;exact wpAny_pyNext_list_end (I.ok.hd hc) st p.isList (by simp;omega) λh' eb=>⟨rfl,I.turned (t':=s.toks) (λb o hb e=>eb b o hb e) f0 f1 f3 f4 f5⟩
 self:=λ_ _ _ _ _ st h=>wpAny_pyIter_listiter st h
def xR{w:World}{K:W.Frag}(a it:Addr):Turn P w K tg (Itt K a) [it] it (λi h=>h.IsTupleIter it a i) where
 mem:=by simp
 obj:=λi h st b hb=>by
  have e:b=it:=by simpa using hb
  subst e;obtain⟨o,e,c,d⟩:=st;exact⟨o,e,λv z=>by rw[d]at z;cases z⟩
 keep:=λi h h' st k=>st.at λo e=>k it (by simp) o e
 item:=by intro X hP hw hK hc i pins s σ H E I hf st hg;subst hP hw hK;obtain⟨xs,x,hq,hx⟩:=hg;obtain⟨its,rv,p,hz⟩:=I.tuple hq;obtain⟨u,hu,ru⟩:=rv.get hx;obtain⟨f0,f1,f2,f3,f4,f5⟩:=hf it (by simp);refine wpAny_pyNext_tuple_item st (show s.heap.IsTuple a its.toArray from p) (x:=u) (by simpa using hu) λh' st' sb=>?_;have I1:Inv X pins σ H { s with heap:=h' }:=I.turned (t':=s.toks) (λb o hb e=>(sb.2 b hb).trans e) f0 f1 f3 f4 f5;obtain⟨o,e,c,d⟩:=id st';exact⟨u,rfl,yL (s:={ s with heap:=h' }) e c d (by decide) ⟨x,H,I1,ru,⟨rfl,λys hy=>by rw[I.tuple_inj hy hq];exact hx⟩,st',λb hb=>(hf b hb).1⟩⟩
 done:=by intro X hP hw hK hc i pins s σ H E I hf st hg;subst hP hw hK;obtain⟨xs,hq,hx⟩:=hg;obtain⟨its,rv,p,hz⟩:=I.tuple hq;obtain⟨f0,f1,f2,f3,f4,f5⟩:=hf it (by simp);have hl:=rv.length;exact wpAny_pyNext_tuple_end (I.ok.hd hc) st (show s.heap.IsTuple a its.toArray from p) (by simp;omega) λh' eb=>⟨rfl,I.turned (t':=s.toks) (λb o hb e=>eb b o hb e) f0 f1 f3 f4 f5⟩
 self:=λ_ _ _ _ _ st h=>wpAny_pyIter_tupleiter st h
def xc{w:World}{K:W.Frag}(it:Addr)(lo:Int)(n:Nat):Turn P w K tg (Itr lo n) [it] it (λi h=>IsRangeIter h it (lo+(i:Nat) * 1) ((n:Int) - (i:Nat)) 1) where
 mem:=by simp
 obj:=λi h st b hb=>by
  have e:b=it:=by simpa using hb
  subst e;exact⟨_,st,λv z=>by have z':Data.fields _=Data.cell v:=z;cases z'⟩
 keep:=λi h h' st k=>k it (by simp) _ st
 item:=by intro X hP hw hK hc i pins s σ H E I hf st hg;subst hP hw hK;obtain⟨f0,f1,f2,f3,f4,f5⟩:=hf it (by simp);have W:=Walks.range (prog:=X.prog) (w:=X.w) (I.ok.hd hc) it lo 1 n;refine W.item i s _ _ hg st λv h' tk hv st' kk=>?_;obtain⟨t,rfl⟩:=hv;have I1:Inv X pins σ H { s with heap:=h',toks:=tk }:=I.turned (λb o hb e=>kk b o (by simpa using hb) e) f0 f1 f3 f4 f5;refine⟨_,rfl,yL (s:={ s with heap:=h',toks:=tk }) (n:="range_iterator") st' rfl rfl (by decide) ⟨.int (lo+i),H,I1,⟨t,?_⟩,⟨rfl,rfl⟩,st',λb hb=>(hf b hb).1⟩⟩;rw[Int.mul_one]
 done:=by intro X hP hw hK hc i pins s σ H E I hf st hg;subst hP hw hK;obtain⟨f0,f1,f2,f3,f4,f5⟩:=hf it (by simp);exact wpAny_pyNext_range_end (I.ok.hd hc) st (by have:n<=i:=hg;omega) λh' eb=>⟨rfl,I.turned (t':=s.toks) (λb o hb e=>eb b o hb e) f0 f1 f3 f4 f5⟩
 self:=λ_ _ _ _ _ st h=>wpAny_pyIter_rangeiter st h
section
def wK{R:It->Hp->Prop}{lo hi:Int}{t u v:Tok}{tk:Nat}(I:Inv X pins σ H s)(h1 : -(2 ^ 62)<=lo)(h2:lo<2 ^ 62)(h3 : -(2 ^ 62)<=hi)(h4:hi<2 ^ 62)(q:R (Itr lo (hi - lo).toNat) H):wpAny (model X.prog X.w) X.A (pyIter (.ref s.heap.objs.size)) (PIE X pins σ tg R) E { s with heap:=s.heap.push { cls:=.type "range",data:=.fields #[.int lo t,.int hi u,.int 1 v] },toks:=tk }:=by
 refine wpAny_pyIter_range (IsRange.new ..) (small_one h1 h2 h3 h4) ?_;have I1:Inv X pins σ H { s with heap:=s.heap.push { cls:=.type "range",data:=.fields #[.int lo t,.int hi u,.int 1 v] },toks:=tk }:=I.kept λb o e=>Heap.get?_push_of_some _ e;refine⟨(s.heap.push { cls:=.type "range",data:=.fields #[.int lo t,.int hi u,.int 1 v] }).objs.size,[(s.heap.push { cls:=.type "range",data:=.fields #[.int lo t,.int hi u,.int 1 v] }).objs.size],_,_,H,rfl,
  I1.kept (t':=tk) λb o e=>Heap.get?_push_of_some _ e,xc _ lo (hi - lo).toNat,?_,λb hb=>?_,q⟩
 ·have e1:lo+((0:Nat):Int) * 1=lo:=by simp
  have e2:(((hi - lo).toNat:Nat):Int) - ((0:Nat):Int)=Builtin.Range.rangeSize lo hi 1:=by rw[rangeSize_one];split <;> omega
  show IsRangeIter _ _ (lo+((0:Nat):Int) * 1) ((((hi - lo).toNat:Nat):Int) - ((0:Nat):Int)) 1;rw[e1,e2];exact Heap.get?_push_size _ rfl
 ·have e:b=(s.heap.push { cls:=.type "range",data:=.fields #[.int lo t,.int hi u,.int 1 v] }).objs.size:=by simpa using hb
  subst e;exact I1.fpOk (Nat.le_refl _) (I1.hok.fresh (Nat.le_refl _))
noncomputable def Ka(ta:TA):TI:=λσ H R=>ta σ H λvs H1=>∃j:Int,vs=[.int j]/\-(2 ^ 62)<=j/\j<2 ^ 62/\R (Itr 0 j.toNat) H1
noncomputable def K9(ta:TA):TI:=λσ H R=>ta σ H λvs H1=>∃i j:Int,vs=[.int i,.int j]/\(-(2 ^ 62)<=i/\i<2 ^ 62/\-(2 ^ 62)<=j/\j<2 ^ 62)/\R (Itr i (j - i).toNat) H1
def yq{a:Expr}{ta:TA}{p:Pos}(hg:Gl X "range")(hm:X.mg "range"=none)(ha:PA X [a] ta)(hs:starEach [a] X.env=[(false,eval a X.env)]:=by rfl):PI X tg (.Call (.Name "range" p) [a] [] pos) (Ka ta):=by
 intro pins s σ H R I h;refine Call_ (jk I hg hm boot_range (callWith_type1 (thn (ha pos pins s σ H _ I h) λus s1 ⟨vs,H1,I1,r1,q1⟩=>?_) hs rfl));obtain⟨j,e,q1,q2,q⟩:=q1;subst e;cases r1 with
 |cons r rr=>cases rr;obtain⟨t,rfl⟩:=r;exact call_range_1 (wK I1 (by omega) (by omega) q1 q2 (by simpa using q))
def AG{a b:Expr}{ta:TA}{p:Pos}(hg:Gl X "range")(hm:X.mg "range"=none)(ha:PA X [a,b] ta)(hs:starEach [a,b] X.env=[(false,eval a X.env),(false,eval b X.env)]:=by rfl)(hs2:starEach [b] X.env=[(false,eval b X.env)]:=by rfl):
  PI X tg (.Call (.Name "range" p) [a,b] [] pos) (K9 ta):=by
 intro pins s σ H R I h;refine Call_ (jk I hg hm boot_range (callWith_type1 (thn (ha pos pins s σ H _ I h) λus s1 ⟨vs,H1,I1,r1,q1⟩=>?_) (by rw[hs,hs2]) (by rw[hs2];rfl)));obtain⟨i,j,e,⟨q1,q2,q3,q4⟩,q⟩:=q1;subst e;cases r1 with
 |cons r rr=>
  cases rr with
  |cons r' rr=>cases rr;obtain⟨t,rfl⟩:=r;obtain⟨t',rfl⟩:=r';exact call_range_2 (wK I1 q1 q2 q3 q4 q)
noncomputable def Mu(wi:TI)(g:TG)(tb:TS):TS:=λD σ H=>wi σ H λJ H1=>∃W:Nat->Nat->St->Hp->Prop,(∃m,W 0 m σ H1)/\∀i m σ H,W i m σ H->
 (J.stop i H/\D.nx σ H)\/(J.go i H/\∃N:St->Hp->Prop,(∀σ' H',N σ' H'->∃m',m'<m/\W (i+1) m' σ' H')/\∀x H',J.yld i H x H'->g x σ H' λσ2 H2=>tb { D with nx:=N,ct:=N,bk:=D.nx } σ2 H2)
noncomputable def rK(fp:List Addr)(h:Heap):List (Addr×Obj):=fp.filterMap λb=>(h.get? b).map λo=>(b,o)
def kP(hb:b∈fp)(e:h.get? b=some o):(b,o)∈rK fp h:=List.mem_filterMap.mpr ⟨b,hb,by rw[e];rfl⟩
def xY{p:Addr×Obj}(hp:p∈rK fp h):p.1∈fp/\h.get? p.1=some p.2:=by
 obtain⟨b,hb,e⟩:=List.mem_filterMap.mp hp;cases q:h.get? b with
 |none=>rw[q]at e;cases e
 |some o=>rw[q]at e;have e':(b,o)=p:=Option.some.inj e;subst e';exact⟨hb,q⟩
def Inv.pinned(I:Inv X pins σ H s)(hf:∀b∈fp,lN X pins H b)(ho:∀b∈fp,∃o,s.heap.get? b=some o/\∀v,o.data≠.cell v):Inv X (pins++rK fp s.heap) σ H s:=
 I.pins_of λp hp=>(List.mem_append.mp hp).elim (λz=>I.pin p (List.mem_append_right _ z)) λz=>by obtain⟨hb,e⟩:=xY z;obtain⟨f0,f1,f2,_⟩:=hf p.1 hb;obtain⟨o,e',d⟩:=ho p.1 hb;rw[e]at e';cases e';exact⟨e,f0,f1,f2,d⟩
def Inv.unpinned{pl:List (Addr×Obj)}(I:Inv X (pins++pl) σ H s):Inv X pins σ H s:=I.pins_of λp hp=>I.pin p (List.mem_append_right _ (List.mem_append_left _ hp))
def Du{body:List Stmt}{wi:TI}{g:TG}{tb:TS}(hp:PassesOwn (model X.prog X.w) X.A X.env X.xe)(hc:X.calm=true)(hi:PI X tg iter wi)(hg:PG X tg g)(hb:PSs X body tb)(hs:∀x,foldedSetIterable iter X.env x=pure x:=by intro _;rfl):PS X (.For tg iter body [] pos) (Mu wi g tb):=by
 intro pins s σ H D I h;refine wpAny_For (thn (hi pins s σ H _ I h) λv s1 h1=>thn h1 λitv s2 h2=>?_) hs;obtain⟨it,fp,tn,J,H2,e,I2,T,st2,f2,W,⟨m0,w0⟩,turn⟩:=h2;subst e;have stat:∀{H':Hp},(∀b∈fp,H' b=none)->∀b∈fp,lN X pins H' b:=λhn b hb=>⟨hn b hb,(f2 b hb).2⟩
 refine codeAny_forLoop_any (λn s'=>∃i σ' H',Inv X pins σ' H' s'/\tn i s'.heap/\(∀b∈fp,H' b=none)/\W i n σ' H') ?_ m0 ⟨0,σ,H2,I2,st2,λb hb=>(f2 b hb).1,w0⟩;rintro n s3 ⟨i,σ3,H3,I3,st3,fr3,w3⟩;rcases turn i n σ3 H3 w3 with⟨stop,qn⟩|⟨go,N,hN,step⟩
 ·refine wpAny_passesOwn hp (thn (T.done X rfl rfl rfl hc i pins s3 σ3 H3 X.xe I3 (stat fr3) st3 stop) λr s4 ⟨hr,I4⟩=>?_);subst hr;exact wpAny_execs_nil ⟨σ3,H3,I4,qn⟩
 ·refine wpAny_passesOwn hp (thn (T.item X rfl rfl rfl hc i pins s3 σ3 H3 X.xe I3 (stat fr3) st3 go) λr s4 ⟨u,hr,h4⟩=>?_);subst hr;refine wpAny_passesOwn hp (thn h4 λ_ s5 ⟨x,H5,I5,r5,y5,st5,fr5⟩=>?_);have I5':=I5.pinned (stat fr5) (T.obj _ _ st5);refine wpAny_passesOwn hp (thn (hg _ s5 σ3 H5 x u _ I5' r5 (step x H5 y5)) λ_ s6 ⟨σ6,H6,I6,q6⟩=>?_);refine wpAny_passesOwn hp (thn (hb _ s6 σ6 H6 _ I6 q6) λf s7 q7=>?_);have again:∀{σ7:St}{H7:Hp},Inv X (pins++rK fp s5.heap) σ7 H7 s7->N σ7 H7->∃m,m<n/\∃i σ' H',Inv X pins σ' H' s7/\tn i s7.heap/\(∀b∈fp,H' b=none)/\W i m σ' H':=λ{σ7 H7} I7 n7=>by obtain⟨m',hm,w7⟩:=hN σ7 H7 n7;refine⟨m',hm,i+1,σ7,H7,I7.unpinned,T.keep _ _ _ st5 λb hb o e=>(I7.pin (b,o) (List.mem_append_right _ (List.mem_append_right _ (kP hb e)))).1,λb hb=>?_,w7⟩;obtain⟨o,e,d⟩:=T.obj _ _ st5 b hb;exact(I7.pin (b,o) (List.mem_append_right _ (List.mem_append_right _ (kP hb e)))).2.1
  cases f with
  |next=>obtain⟨σ7,H7,I7,n7⟩:=q7;exact again I7 n7
  |cont=>obtain⟨σ7,H7,I7,n7⟩:=q7;exact again I7 n7
  |brk=>obtain⟨σ7,H7,I7,q7⟩:=q7;exact⟨σ7,H7,I7.unpinned,q7⟩
  |ret v=>obtain⟨x7,σ7,H7,I7,r7,q7⟩:=q7;exact⟨x7,σ7,H7,I7.unpinned,r7,q7⟩
end
noncomputable abbrev R2:=V->V->Hp->VK->Prop
noncomputable def OpR(X:Cx)(f:Value->Value->Sem Value)(r:R2):Prop:=
 ∀(pins:List (Addr×Obj))(s:Shared)(σ:St)(H:Hp)(x y:V)(v u:Value)(Q:VK),Inv X pins σ H s->RelV x v->RelV y u->r x y H Q->
  wpAny (model X.prog X.w) X.A (f v u) (EP X pins σ Q) X.xe s
noncomputable def UnR(X:Cx)(f:Value->Sem Value)(r:V->Hp->VK->Prop):Prop:=
 ∀(pins:List (Addr×Obj))(s:Shared)(σ:St)(H:Hp)(x:V)(v:Value)(Q:VK),Inv X pins σ H s->RelV x v->r x H Q->
  wpAny (model X.prog X.w) X.A (f v) (EP X pins σ Q) X.xe s
noncomputable def kI(X:Cx)(f:Value)(r:List V->Hp->VK->Prop):Prop:=
 ∀(pins:List (Addr×Obj))(s:Shared)(σ:St)(H:Hp)(xs:List V)(us:List Value)(Q:VK),Inv X pins σ H s->Vals xs us->r xs H Q->
  wpAny (model X.prog X.w) X.A (call f us) (EP X pins σ Q) X.xe s
noncomputable def M3(X:Cx)(r:V->Hp->(Bool->Hp->Prop)->Prop):Prop:=
 ∀(pins:List (Addr×Obj))(s:Shared)(σ:St)(H:Hp)(x:V)(v:Value)(Q:Bool->Hp->Prop),Inv X pins σ H s->RelV x v->r x H Q->
  wpAny (model X.prog X.w) X.A (truthy v) (TP X pins σ Q) X.xe s
noncomputable def tOp(r:R2)(ta tb:TE):TE:=λσ H Q=>ta σ H λx H1=>tb σ H1 λy H2=>r x y H2 Q
noncomputable def tUn(r:V->Hp->VK->Prop)(ta:TE):TE:=λσ H Q=>ta σ H λx H1=>r x H1 Q
noncomputable def rI(C:Int->Int->Prop)(g:Int->Int->V):R2:=λx y H Q=>∃i j,x=.int i/\y=.int j/\C i j/\Q (g i j) H
noncomputable def rI0(g:Int->Int->V):R2:=λx y H Q=>∃i j,x=.int i/\y=.int j/\Q (g i j) H
noncomputable def rU(g:Int->V):V->Hp->VK->Prop:=λx H Q=>∃i,x=.int i/\Q (g i) H
section
variable{a b c:Expr}{ta tb tc:TE}
def LZ(ha:PE X a ta)(hb:PE X b tb){R:V->V->Hp->Prop}(I:Inv X pins σ H s)(h:ta σ H λx H1=>tb σ H1 λy H2=>R x y H2){Q:Value->Shared->Prop}{f:Value->Value->Sem Value}(hf:∀v u s2 x y H2,Inv X pins σ H2 s2->RelV x v->RelV y u->R x y H2->wpAny (model X.prog X.w) X.A (f v u) Q X.xe s2):
  wpAny (model X.prog X.w) X.A (eval a X.env) (λv s₁=>wpAny (model X.prog X.w) X.A (eval b X.env) (λu s₂=>wpAny (model X.prog X.w) X.A (f v u) Q X.xe s₂) X.xe s₁) X.xe s:=by
 refine thn (ha pins s σ H _ I h) λv s1 ⟨x,H1,I1,r1,q1⟩=>?_;refine thn (hb pins s1 σ H1 _ I1 q1) λu s2 ⟨y,H2,I2,r2,q2⟩=>?_;exact hf v u s2 x y H2 I2 r1 r2 q2
def LW{op:Operator}{r:R2}(ho:OpR X (binaryOp op) r)(ha:PE X a ta)(hb:PE X b tb):PE X (.BinOp a op b pos) (tOp r ta tb):=by intro pins s σ H Q I h;exact wpAny_BinOp (LZ ha hb I h λv u s2 x y H2 I2 rx ry q=>ho pins s2 σ H2 x y v u Q I2 rx ry q)
def La{op:UnaryOp}{r:V->Hp->VK->Prop}(ho:UnR X (unaryOp op) r)(ha:PE X a ta):PE X (.UnaryOp op a pos) (tUn r ta):=by intro pins s σ H Q I h;exact UnaryOp_ (thn (ha pins s σ H _ I h) λv s1 ⟨x,H1,I1,r1,q1⟩=>ho pins s1 σ H1 x v Q I1 r1 q1)
def opI{f:Value->Value->Sem Value}{C:Int->Int->Prop}{g:Int->Int->Int}(rule:∀(i j:Int)(t u:Tok)(s:Shared)(Q:Value->Shared->Prop)(E:Value->Shared->Prop),C i j->Q (.int (g i j) s.toks) { s with toks:=s.toks+1 }->wpAny (model X.prog X.w) X.A (f (.int i t) (.int j u)) Q E s):
  OpR X f (rI C λi j=>.int (g i j)):=by
 intro pins s σ H x y v u Q I rx ry h;obtain⟨i,j,rfl,rfl,hc,q⟩:=h;obtain⟨t,rfl⟩:=rx;obtain⟨t',rfl⟩:=ry;exact rule i j t t' s _ _ hc ⟨.int (g i j),H,I.tok _,⟨_,rfl⟩,q⟩
def Ms{f:Value->Value->Sem Value}{g:Int->Int->Int}(rule:∀(i j:Int)(t u:Tok)(s:Shared)(Q:Value->Shared->Prop)(E:Value->Shared->Prop),Q (.int (g i j) s.toks) { s with toks:=s.toks+1 }->wpAny (model X.prog X.w) X.A (f (.int i t) (.int j u)) Q E s):
  OpR X f (rI0 λi j=>.int (g i j)):=by
 intro pins s σ H x y v u Q I rx ry h;obtain⟨i,j,rfl,rfl,q⟩:=h;obtain⟨t,rfl⟩:=rx;obtain⟨t',rfl⟩:=ry;exact rule i j t t' s _ _ ⟨.int (g i j),H,I.tok _,⟨_,rfl⟩,q⟩
def LR{f:Value->Value->Sem Value}{g:Int->Int->Bool}(rule:∀(i j:Int)(t u:Tok)(s:Shared)(Q:Value->Shared->Prop)(E:Value->Shared->Prop),Q (.bool (g i j)) s->wpAny (model X.prog X.w) X.A (f (.int i t) (.int j u)) Q E s):
  OpR X f (rI0 λi j=>.bl (g i j)):=by
 intro pins s σ H x y v u Q I rx ry h;obtain⟨i,j,rfl,rfl,q⟩:=h;obtain⟨t,rfl⟩:=rx;obtain⟨t',rfl⟩:=ry;exact rule i j t t' s _ _ ⟨.bl (g i j),H,I,rfl,q⟩
noncomputable def Nw(i j:Int):Prop:=0<j/\j<1073741824
noncomputable def CMul(i j:Int):Prop:=(-(2 ^ 64)<i/\i<2 ^ 64)\/(-(2 ^ 64)<j/\j<2 ^ 64)
def CMul.ok{i j:Int}(h:CMul i j):IntMulOk i j:=by
 rcases h with⟨h1,h2⟩|⟨h1,h2⟩;·exact .of_left (intBits_le_64 h1 h2)
 ·exact .of_right (intBits_le_64 h1 h2)
def op_add:OpR X (binaryOp .Add) (rI0 λi j=>.int (i+j)):=Ms λ_ _ _ _ _ _ _ q=>add_int q
def GR:OpR X (binaryOp .Sub) (rI0 λi j=>.int (i - j)):=Ms λ_ _ _ _ _ _ _ q=>sub_int q
def op_mul:OpR X (binaryOp .Mult) (rI CMul λi j=>.int (i * j)):=opI λ_ _ _ _ _ _ _ hc q=>mul_int q hc.ok
def Fq:OpR X (binaryOp .FloorDiv) (rI Nw λi j=>.int (i / j)):=opI λi j _ _ _ _ _ hc q=>by have h1:(0:Int)<j:=hc.1;have h2:j<1073741824:=hc.2;exact floordiv_int (by omega) (by rw[Int.fdiv_eq_ediv_of_nonneg i (by omega)];exact q) (.inl (PyProof.noPylong_small (by omega)))
def JB:OpR X (binaryOp .Mod) (rI (λ_ j=>0<j) λi j=>.int (i % j)):=opI λi j _ _ _ _ _ hc q=>by have h1:(0:Int)<j:=hc;exact mod_int' (by omega) (by rw[Int.fmod_eq_emod_of_nonneg i (by omega)];exact q)
def unI{f:Value->Sem Value}{g:Int->Int}(rule:∀(i:Int)(t:Tok)(s:Shared)(Q:Value->Shared->Prop)(E:Value->Shared->Prop),Q (.int (g i) s.toks) { s with toks:=s.toks+1 }->wpAny (model X.prog X.w) X.A (f (.int i t)) Q E s):
  UnR X f (rU λi=>.int (g i)):=by
 intro pins s σ H x v Q I rx h;obtain⟨i,rfl,q⟩:=h;obtain⟨t,rfl⟩:=rx;exact rule i t s _ _ ⟨.int (g i),H,I.tok _,⟨_,rfl⟩,q⟩
def HY:UnR X (unaryOp .USub) (rU λi=>.int (-i)):=unI λ_ _ _ _ _ q=>neg_int q
end
section
variable{a b c:Expr}{ta tb tc:TE}
def zw{Q:VK}{k k':Bool}(I:Inv X pins σ H s)(q:Q (.bl k) H)(e:k=k'):EP X pins σ Q (.bool k') s:=by subst e;exact⟨.bl k,H,I,rfl,q⟩
def op_lt:OpR X (compareOp .Lt) (rI0 λi j=>.bl (decide (i<j))):=LR λ_ _ _ _ _ _ _ q=>lt_int q
def op_le:OpR X (compareOp .LtE) (rI0 λi j=>.bl (decide (i<=j))):=LR λ_ _ _ _ _ _ _ q=>le_int q
def Kx:OpR X (compareOp .Gt) (rI0 λi j=>.bl (decide (j<i))):=LR λ_ _ _ _ _ _ _ q=>gt_int q
def Ac:OpR X (compareOp .Lt) (λx y H Q=>∃i j,x=.str i/\y=.str j/\Q (.bl (decide (i.cps.toList<j.cps.toList))) H):=by intro pins s σ H x y v u Q I rx ry h;obtain⟨i,j,rfl,rfl,q⟩:=h;obtain⟨t,rfl⟩:=rx;obtain⟨t',rfl⟩:=ry;exact lt_str (zw I q rfl)
def op_isN:OpR X (compareOp .Is) (λx y H Q=>y=.non/\Q (.bl (decide (x=.non))) H):=by
 intro pins s σ H x y v u Q I rx ry h;obtain⟨rfl,q⟩:=h;cases ry;refine is_none_gen (zw I q ?_);cases x <;> first
  | (cases rx;rfl)
  | (obtain⟨t,rfl⟩:=rx;rfl)
def OpR.or{f:Value->Value->Sem Value}{r r':R2}(h:OpR X f r)(h':OpR X f r'):OpR X f (λx y H Q=>r x y H Q\/r' x y H Q):=by
 intro pins s σ H x y v u Q I rx ry q;rcases q with q|q;·exact h pins s σ H x y v u Q I rx ry q
 ·exact h' pins s σ H x y v u Q I rx ry q
def kZ(b:Expr){op:CmpOp}(h:op≠.In:=by decide)(h2:op≠.NotIn:=by decide):behindInMarks op b=false:=by
 have e1:(op==CmpOp.In)=false:=by cases op <;> first|rfl|exact absurd rfl h
 have e2:(op==CmpOp.NotIn)=false:=by cases op <;> first|rfl|exact absurd rfl h2
 cases b <;> simp[behindInMarks,e1,e2]
def EN{op:CmpOp}{r:R2}(ho:OpR X (compareOp op) r)(ha:PE X a ta)(hb:PE X b tb)(hm:behindInMarks op b=false):PE X (.Compare a [op] [b] pos) (tOp r ta tb):=by intro pins s σ H Q I h;exact wpAny_Compare1 (LZ ha hb I h λv u s2 x y H2 I2 rx ry q=>ho pins s2 σ H2 x y v u Q I2 rx ry q) hm
noncomputable def Es(t:TE):TT:=λσ H Q=>t σ H λx H'=>∃k,x=.bl k/\Q k H'
def vx{op:CmpOp}{r:R2}(ho:OpR X (compareOp op) r)(ha:PE X a ta)(hb:PE X b tb)(hm:behindInMarks op b=false):PT X (.Compare a [op] [b] pos) (Es (tOp r ta tb)):=by intro pins s σ H Q I h;refine wpAny_isTrue_Compare1 (thn (ha pins s σ H _ I h) λv s1 ⟨x,H1,I1,r1,q1⟩=>thn (hb pins s1 σ H1 _ I1 q1) λu s2 ⟨y,H2,I2,r2,q2⟩=>thn (ho pins s2 σ H2 x y v u _ I2 r1 r2 q2) λc s3 ⟨z,H3,I3,r3,k,e,q3⟩=>?_) hm;subst e;cases r3;exact wpAny_truthy_bool ⟨H3,I3,q3⟩
noncomputable def DA(r r':R2)(ta tb tc:TE):TE:=λσ H Q=>ta σ H λx H1=>tb σ H1 λy H2=>r x y H2 λz H3=>∃k,z=.bl k/\
 (if k=true then tc σ H3 λw' H4=>r' y w' H4 Q else Q (.bl false) H3)
def BO{op op':CmpOp}{r r':R2}(ho:OpR X (compareOp op) r)(ho':OpR X (compareOp op') r')(ha:PE X a ta)(hb:PE X b tb)(hc:PE X c tc)(hm:lastMarks [op,op'] [b,c]=false:=by with_unfolding_all rfl):PE X (.Compare a [op,op'] [b,c] pos) (DA r r' ta tb tc):=by
 intro pins s σ H Q I h;refine Compare_chain (thn (ha pins s σ H _ I h) λv s1 ⟨x,H1,I1,r1,q1⟩=>chain_link (thn (hb pins s1 σ H1 _ I1 q1) λu s2 ⟨y,H2,I2,r2,q2⟩=>thn (ho pins s2 σ H2 x y v u _ I2 r1 r2 q2) λd s3 ⟨z,H3,I3,r3,k,e,q3⟩=>?_)) hm;subst e;cases r3;refine wpAny_truthy_bool ?_;cases k with
 |false=>exact ite_ff ⟨.bl false,H3,I3,rfl,q3⟩
 |true=>exact ite_tt (chain_last (thn (hc pins s3 σ H3 _ I3 q3) λw' s4 ⟨z',H4,I4,r4,q4⟩=>ho' pins s4 σ H4 y z' u w' Q I4 r2 r4 q4))
def CG{op op':CmpOp}{r r':R2}(ho:OpR X (compareOp op) r)(ho':OpR X (compareOp op') r')(ha:PE X a ta)(hb:PE X b tb)(hc:PE X c tc)(hm:lastMarks [op,op'] [b,c]=false:=by with_unfolding_all rfl):PT X (.Compare a [op,op'] [b,c] pos) (Es (DA r r' ta tb tc)):=by
 intro pins s σ H Q I h;refine isTrue_chain (thn (ha pins s σ H _ I h) λv s1 ⟨x,H1,I1,r1,q1⟩=>test_link (thn (hb pins s1 σ H1 _ I1 q1) λu s2 ⟨y,H2,I2,r2,q2⟩=>thn (ho pins s2 σ H2 x y v u _ I2 r1 r2 q2) λd s3 ⟨z,H3,I3,r3,k,e,q3⟩=>?_)) hm;subst e;cases r3;refine wpAny_truthy_bool ?_;cases k with
 |false=>obtain⟨k',e',q'⟩:=q3;cases e';exact ite_ff ⟨H3,I3,q'⟩
 |true=>refine ite_tt (test_last (thn (hc pins s3 σ H3 _ I3 q3) λw' s4 ⟨z',H4,I4,r4,q4⟩=>thn (ho' pins s4 σ H4 y z' u w' _ I4 r2 r4 q4) λd' s5 ⟨z2,H5,I5,r5,k2,e2,q5⟩=>?_));subst e2;cases r5;exact wpAny_truthy_bool ⟨H5,I5,q5⟩
noncomputable def Mf(K:W.Frag)(x:V)(H:Hp)(k:Bool):Prop:=
 match x with
 |.non=>k=false
 |.bl b=>k=b
 |.int i=>k=(i != 0)
 |.str y=>y.length<=sizeLine/\k=((y.length:Int) != 0)
 |.byt y=>y.size<=sizeLine/\k=((y.size:Int) != 0)
 |.ref p=>(∃xs,SqL K H p xs/\k = !xs.isEmpty)\/(∃xs,SqT K H p xs/\k = !xs.isEmpty)\/∃kvs,H p=some (.dK kvs)/\k = !kvs.isEmpty
 |_=>False
def xA{κ:Type}{kvs:List (κ×V)}{vs:List (κ×Value)}(r:KV kvs vs):(!vs.isEmpty) = !kvs.isEmpty:=by cases r <;> rfl
def oy(r:Vals xs its):(!its.toArray.isEmpty) = !xs.isEmpty:=by cases r <;> simp
def mX:(sizeLine:Nat)<2 ^ 63:=by rw[sizeLine_eq];decide
def Hi:M3 X (λx H Q=>∃k,Mf X.K x H k/\Q k H):=by
 intro pins s σ H x v Q I rx h;obtain⟨k,e,q⟩:=h;have hl:=mX;have hs:sizeLine=16777216:=sizeLine_eq;cases x with
 |non=>cases rx;have e':k=false:=e;subst e';exact truthy_none ⟨H,I,q⟩
 |bl b=>cases rx;have e':k=b:=e;subst e';exact wpAny_truthy_bool ⟨H,I,q⟩
 |int i=>obtain⟨t,rfl⟩:=rx;have e':k=(i != 0):=e;subst e';exact PySem.P.truthy_int ⟨H,I,q⟩
 |str y=>obtain⟨t,rfl⟩:=rx;obtain⟨hy,e'⟩:y.length<=sizeLine/\k=((y.length:Int) != 0):=e;subst e';exact PySem.P.truthy_str (by omega) ⟨H,I.tok _,q⟩
 |byt y=>obtain⟨t,rfl⟩:=rx;obtain⟨hy,e'⟩:y.size<=sizeLine/\k=((y.size:Int) != 0):=e;subst e';exact W.truthy_bytes (by omega) ⟨H,I.tok _,q⟩
 |ref p=>
  cases rx;have e':(∃xs,SqL X.K H p xs/\k = !xs.isEmpty)\/(∃xs,SqT X.K H p xs/\k = !xs.isEmpty)\/∃kvs,H p=some (.dK kvs)/\k = !kvs.isEmpty:=e;rcases e' with⟨xs,hx,e'⟩|⟨xs,hx,e'⟩|⟨kvs,hx,e'⟩
  ·subst e';obtain⟨its,r,pl,hz⟩:=I.list hx;have hlen:=r.length;exact wpAny_truthy_list pl.isList (by simp only[List.size_toArray];omega) ⟨H,I.tok _,by rw[oy r];exact q⟩
  ·subst e';obtain⟨its,r,pl,hz⟩:=I.tuple hx;have hlen:=r.length;exact truthy_tuple pl (by simp only[List.size_toArray];omega) ⟨H,I.tok _,by rw[oy r];exact q⟩
  ·subst e';obtain⟨hz,hS,vs,r,m⟩:kvs.length<=sizeLine/\(p==sysModules)=false/\∃vs,KV kvs vs/\s.heap.DictOf (uB X.prog X.w) p vs:=I.hok p _ hx;have hlen:kvs.length=vs.length:=Paired.length r;exact wpAny_truthy_dict hS m (by omega) ⟨H,I.tok _,by rw[xA r];exact q⟩
 |_=>exact(show False from e).elim
def CJ(ha:PE X a ta)(he:∀whole,isTrue a X.env whole=(do let v <- whole;standAt a.pos;holding [v] (truthy v))):
  PT X a (λσ H Q=>ta σ H λx H'=>∃k,Mf X.K x H' k/\Q k H'):=by
 intro pins s σ H Q I h;exact isTrue_plain (thn (ha pins s σ H _ I h) λv s1 ⟨x,H1,I1,r1,q1⟩=>Hi pins s1 σ H1 x v Q I1 r1 q1) (he _)
def op_add_str:OpR X (binaryOp .Add) (λx y H Q=>∃i j,x=.str i/\y=.str j/\i.length+j.length<=sizeLine/\Q (.str (i++j)) H):=by intro pins s σ H x y v u Q I rx ry h;obtain⟨i,j,rfl,rfl,hz,q⟩:=h;obtain⟨t,rfl⟩:=rx;obtain⟨t',rfl⟩:=ry;exact add_str (λt' tk=>⟨.str (i++j),H,I.tok _,⟨_,rfl⟩,q⟩) hz
def zr{x:V}(r:Vals [x] us):∃u,us=[u]/\RelV x u:=by
 cases r with
 |cons r1 r2=>cases r2;exact⟨_,rfl,r1⟩
noncomputable def MW(K:W.Frag)(x:V)(H:Hp)(n:Nat):Prop:=
 match x with
 |.str y=>y.length<=sizeLine/\n=y.length
 |.byt y=>y.size<=sizeLine/\n=y.size
 |.ref p=>(∃xs,SqL K H p xs/\n=xs.length)\/∃xs,SqT K H p xs/\n=xs.length
 |_=>False
def Bx:kI X (.builtin "len") (λxs H Q=>∃x n,xs=[x]/\MW X.K x H n/\Q (.int n) H):=by
 intro pins s σ H xs us Q I r h;obtain⟨x,n,rfl,e,q⟩:=h;obtain⟨u,rfl,rx⟩:=zr r;have hl:=mX;have hs:sizeLine=16777216:=sizeLine_eq;cases x with
 |str y=>obtain⟨t,rfl⟩:=rx;obtain⟨hy,e'⟩:y.length<=sizeLine/\n=y.length:=e;subst e';exact len_str (by omega) ⟨.int _,H,I.tok _,⟨_,rfl⟩,q⟩
 |byt y=>obtain⟨t,rfl⟩:=rx;obtain⟨hy,e'⟩:y.size<=sizeLine/\n=y.size:=e;subst e';exact W.len_bytes (by omega) ⟨.int _,H,I.tok _,⟨_,rfl⟩,q⟩
 |ref p=>
  cases rx;have e':(∃xs,SqL X.K H p xs/\n=xs.length)\/∃xs,SqT X.K H p xs/\n=xs.length:=e;rcases e' with⟨xs,hx,e'⟩|⟨xs,hx,e'⟩
  ·subst e';obtain⟨its,r',pl,hz⟩:=I.list hx;have hlen:=r'.length;exact Calls.call_len_list pl.isList (by simp only[List.size_toArray];omega) ⟨.int xs.length,H,I.tok _,⟨_,by simp only[List.size_toArray];rw[hlen]⟩,q⟩
  ·subst e';obtain⟨its,r',pl,hz⟩:=I.tuple hx;have hlen:=r'.length;exact len_tuple pl (by simp only[List.size_toArray];omega) ⟨.int xs.length,H,I.tok _,⟨_,by simp only[List.size_toArray];rw[hlen]⟩,q⟩
 |_=>exact(show False from e).elim
end
structure ObjM(h:Heap)(x dx C:Addr)(mA:Str->Option Value):Prop where
 obj:h.get? x=some (W.instObj C dx)
 ns:h.Ns1 dx mA
 ne:dx≠x
def Aq{dx:Addr}(n:h.Ns1 dx mA):∃od,h.get? dx=some od/\∀name,W.lookIn name od=some (mA name):=by
 obtain⟨o,es,ep,ho,hd,hk,_,hm⟩:=n;refine⟨o,ho,λname=>?_⟩;have e:=hm name;unfold nsFind findBy at e;rw[<- Array.find?_toList]at e;unfold W.lookIn;rw[hd];dsimp only;split;·rename_i y q;rw[q]at e;exact congrArg some e
 ·rename_i q;rw[q]at e;have a:es.toList.any (·.refKey)=false:=by rw[List.any_eq_false];intro y hy;obtain⟨z,t,hkey⟩:=hk y (Array.mem_toList_iff.mp hy);simp[DictEntry.refKey,hkey]
  have a' : ¬ es.toList.any (·.refKey)=true:=by rw[a];exact Bool.false_ne_true
  rw[if_neg a'];exact congrArg some e
def ObjM.look{x dx:Addr}(I:ObjM h x dx C mA):∃od,W.InstAt h x (W.instObj C dx) C (some od)/\∀name,W.lookIn name od=some (mA name):=
 let⟨od,ho,hl⟩:=Aq I.ns
 ⟨od,⟨I.obj,rfl,rfl,ho⟩,hl⟩
section
variable{prog:Program}{w:World}{A:Around}{K:W.Frag}{x dx:Addr}{name:Str}{v:Value}
def Ef{expr:Bool}{Q:Value->Shared->Prop}(X:K.In s.heap)(I:ObjM s.heap x dx C mA)(hg:W.plainGet K C name=true)(hh:W.hasDictIn K C=true)(ha:W.findIn K (.ref C) name=some none)(hv:mA name=some v)(hv':W.handedIn v=true)(h:Q v { s with toks:=s.toks+1 }):
  wpAny (model prog w) A (getAttr (.ref x) name expr) Q E s:=by
 obtain⟨od,J,hl⟩:=I.look;exact W.get_value X J (W.plainGet_of hg).1 (W.findObj_own hh ha rfl (by rw[hl,hv])) hv' h
def Cw{pl:Sem Bool}{Q:Value×List Value->Shared->Prop}(X:K.In s.heap)(I:ObjM s.heap x dx C mA)(hg:W.plainGet K C name=true)(hf:W.findIn K (.ref C) name=some (some (.ref f)))(ht:W.isFn K (.ref f)=true)(hv:mA name=none)(h:Q (.ref f,[.ref x]) s):
  wpAny (model prog w) A (getMethod (.ref x) name pl) Q E s:=by
 obtain⟨od,J,hl⟩:=I.look;exact W.method_fn X J (W.plainGet_of hg).1 (W.plainGet_of hg).2 hf (beq_iff_eq.mp ht) (by show(W.lookIn name od).map (·.isSome)=some false;rw[hl,hv];rfl) h
def Ed{ns:List Str}{Q:Unit->Shared->Prop}(X:K.In s.heap)(I:ObjM s.heap x dx C mA)(hs:W.findIn K (.ref C) "__setattr__"=some (some (.builtin "object.__setattr__")))(hp:W.plainOver K C=true)(ht:W.takerIn K C name=some none)(hh:W.hasDictIn K C=true)(hw:PySem.Within mA ns)(hsz:ns.length<=sizeLine)(h:∀h',ObjM h' x dx C (λy=>if y=name then some v else mA y)->Heap.SameBut dx s.heap h'->Q () { s with heap:=h',toks:=s.toks+2 }):
  wpAny (model prog w) A (setAttr (.ref x) name v) Q E s:=by
 obtain⟨od,J,hl⟩:=I.look;refine W.set_plain X J hs (W.osa_open (s:={ s with toks:=s.toks+1 }) (r:=none) X J hp ht λb=>?_);obtain⟨cd,hc,hd'⟩:=W.any_some hh;have hx:s.heap.get? x=some ⟨.ref C,some dx,.plain,#[]⟩:=I.obj;refine wpAny_bind (wpAny_pure (wpAny_bind (wpAny_bind (wpAny_loadPart hx (wpAny_bind (W.Looks.here (s:={ s with toks:=s.toks+1 }) (W.looks_clsIn X hc) ?_))))));rw[hd'];refine wpAny_pure (a:=some dx) (wpAny_bind (wpAny_pure (wpAny_bind ?_)));refine wpAny_nsSet1 (s:={ s with toks:=s.toks+1 }) I.ns λh' hn2 hs2=>?_;obtain⟨oD,esD,epD,hoD,hdD,hcD⟩:=hn2.count (PySem.Within.cons name v hw);refine wpAny_bind (wpAny_lookBehind hoD (by rw[hdD];exact pastItsLine_dict (Nat.le_trans hcD (by rw[List.length_cons];omega))) ?_);exact wpAny_pure (h _ ⟨(hs2.2 _ (Ne.symm I.ne)).trans I.obj,hn2,I.ne⟩ hs2)
def C9{R:Result->Shared->Prop}{vs:List Value}{kw:List (Str×Value)}(X:K.In s.heap)(hm:W.makesIn K C=true)(hi:W.findIn K (.ref C) "__init__"=some (some (.ref f)))(hf:W.typeIn K (.ref f)=some (.type "function"))(h:codeAny (model prog w) (A.under (.builtin "type.__call__" ⟨.ref C::vs,kw⟩)) (.call (.ref f) ⟨.ref (s.heap.objs.size+1)::vs,kw⟩) (W.InitBack (s.heap.objs.size+1) R)
 { s with heap:=(s.heap.push W.emptyDict).push (W.instObj C s.heap.objs.size) }):
  codeAny (model prog w) A (.call (.ref C) ⟨vs,kw⟩) R s:=by
 obtain⟨hh,g,d,t,os⟩:=s;exact W.make_core (W.makes_of X hm) (W.looks_findIn X hi) (λself=>W.bind_fn X self hf) (.inl rfl) h
end
noncomputable def oT(f:Str)(v:V):List (Str×V)->List (Str×V)
 | []=>[(f,v)]
 | (g,x)::r=>if g=f then (g,v)::r else (g,x)::oT f v r
def nz(f g:Str)(v:V):∀fs:List (Str×V),(oT f v fs).lookup g=if g=f then some v else fs.lookup g
 | []=>by
  show List.lookup g [(f,v)]=_;by_cases h:g=f;·have hb:(g==f)=true:=beq_iff_eq.mpr h;simp only[List.lookup,hb,if_pos h]
  ·have hb:(g==f)=false:=beq_eq_false_iff_ne.mpr h;simp only[List.lookup,hb,if_neg h]
 | (k,x)::r=>by
  have ih:=nz f g v r;rw[show oT f v ((k,x)::r)=(if k=f then (k,v)::r else (k,x)::oT f v r) from rfl];by_cases hk:k=f
  ·rw[if_pos hk];by_cases h:g=k;·have hb:(g==k)=true:=beq_iff_eq.mpr h;simp only[List.lookup,hb,if_pos (h.trans hk)]
   ·have hb:(g==k)=false:=beq_eq_false_iff_ne.mpr h;simp only[List.lookup,hb,if_neg (λe:g=f=>h (e.trans hk.symm))]
  ·rw[if_neg hk];by_cases h:g=k;·have hb:(g==k)=true:=beq_iff_eq.mpr h;simp only[List.lookup,hb,if_neg (λe:g=f=>hk (h.symm.trans e))]
   ·have hb:(g==k)=false:=beq_eq_false_iff_ne.mpr h;simp only[List.lookup,hb];exact ih
def lW(f:Str)(v:V):∀fs:List (Str×V),f∈(oT f v fs).map (·.1)/\∀g,g∈fs.map (·.1)->g∈(oT f v fs).map (·.1)
 | []=>⟨by simp[oT],λg h=>by simp at h⟩
 | (k,x)::r=>by
  obtain⟨i1,i2⟩:=lW f v r;rw[show oT f v ((k,x)::r)=(if k=f then (k,v)::r else (k,x)::oT f v r) from rfl];by_cases hk:k=f;·rw[if_pos hk];subst hk;exact⟨by simp,λg h=>by simpa using h⟩
  ·rw[if_neg hk];refine⟨?_,λg h=>?_⟩;·rw[List.map_cons];exact List.mem_cons_of_mem _ i1
   ·rw[List.map_cons]at h⊢;rcases List.mem_cons.mp h with e|e;·exact List.mem_cons.mpr (.inl e)
    ·exact List.mem_cons_of_mem _ (i2 g e)
def lY(f:Str)(v:V):∀fs:List (Str×V),(oT f v fs).length<=fs.length+1
 | []=>by simp[oT]
 | (k,x)::r=>by
  have ih:=lY f v r;rw[show oT f v ((k,x)::r)=(if k=f then (k,v)::r else (k,x)::oT f v r) from rfl];by_cases hk:k=f;·rw[if_pos hk,List.length_cons,List.length_cons];omega
  ·rw[if_neg hk,List.length_cons,List.length_cons];omega
def RelO.some_of{o:Option Value}(r:RelO (some v) o):∃u,o=some u/\RelV v u:=by
 cases o with
 |none=>exact(show False from r).elim
 |some u=>exact⟨u,rfl,r⟩
def RelO.none_of{o:Option Value}(r:RelO none o):o=none:=by
 cases o with
 |none=>rfl
 |some u=>exact(show False from r).elim
def Ax(r:RelV v u):W.handedIn u=true:=by
 cases v with
 |non=>cases (show u=Value.none from r);rfl
 |bl b=>cases (show u=Value.bool b from r);rfl
 |int i=>obtain⟨t,e⟩:=(show ∃t,u=Value.int i t from r);cases e;rfl
 |str x=>obtain⟨t,e⟩:=(show ∃t,u=Value.str x t from r);cases e;rfl
 |byt b=>obtain⟨t,e⟩:=(show ∃t,u=Value.bytes b t from r);cases e;rfl
 |flt b=>obtain⟨t,e⟩:=(show ∃t,u=Value.float b t from r);cases e;rfl
 |ref a=>cases (show u=Value.ref a from r);rfl
 |ty n=>cases (show u=Value.type n from r);rfl
section
variable{w:World}{dx:Addr}{fs fs':List (Str×V)}
def vn(hok:HOk P w H h)(e:H a=some (.ins C dx fs)):∃mA,ObjM h a dx C mA/\(∀f,RelO (fs.lookup f) (mA f))/\PySem.Within mA (fs.map (·.1))/\fs.length<=1000/\H dx=some (.own a):=by
 obtain⟨d,z,ne,ob,mA,n,r,q⟩:=(show ObjOk P w H h a (.ins C dx fs) from hok a _ e)
 exact⟨mA,⟨ob,n,ne⟩,r,q,z,d⟩
end
structure Cls(K:W.Frag)(C:Addr):Prop where
 pg:W.plainGet K C Str.empty=true
 hd:W.hasDictIn K C=true
 po:W.plainOver K C=true
 sa:W.findIn K (.ref C) "__setattr__"=some (some (.builtin "object.__setattr__"))
def Cls.get{K:W.Frag}(c:Cls K C)(f:Str):W.plainGet K C f=true:=c.pg
noncomputable def NoAttr(K:W.Frag)(C:Addr)(f:Str):Prop:=W.findIn K (.ref C) f=some none
def NoAttr.taker{K:W.Frag}{f:Str}(n:NoAttr K C f):W.takerIn K C f=some none:=by unfold W.takerIn;rw[show W.findIn K (.ref C) f=some none from n];rfl
structure Con(K:W.Frag)(C:Addr)(f:Str)(v:V)(u:Value):Prop where
 at_:W.findIn K (.ref C) f=some (some u)
 rel:RelV v u
 get:W.specialIn K u "__get__"=some none
 cp:W.copiedNames.contains f=false
structure Meth(K:W.Frag)(C:Addr)(m:Str)(f:Addr):Prop where
 at_:W.findIn K (.ref C) m=some (some (.ref f))
 fn:W.isFn K (.ref f)=true
 kp:W.keepIn K (.ref f)=true
section
variable{dx:Addr}{fs:List (Str×V)}{f:Str}{A:Around}
def xn{b:Bool}{Q:Value->Shared->Prop}(I:Inv X pins σ H s)(e:H a=some (.ins C dx fs))(c:Cls X.K C)(n:NoAttr X.K C f)(l:fs.lookup f=some v)(h:∀u s',Inv X pins σ H s'->RelV v u->Q u s'):wpAny (model X.prog X.w) A (getAttr (.ref a) f b) Q E s:=by
 obtain⟨mA,O,r,_,_,_⟩:=vn I.hok e;obtain⟨u,hu,ru⟩:=RelO.some_of (v:=v) (o:=mA f) (by rw[<- l];exact r f);exact Ef I.kIn O (c.get f) c.hd n hu (Ax ru) (h u _ (I.tok _) ru)
def iV{m:Str}{g:Addr}{pl:Sem Bool}{Q:Value×List Value->Shared->Prop}(I:Inv X pins σ H s)(e:H a=some (.ins C dx fs))(c:Cls X.K C)(k:Meth X.K C m g)(l:fs.lookup m=none)(h:Q (.ref g,[.ref a]) s):wpAny (model X.prog X.w) A (getMethod (.ref a) m pl) Q E s:=by
 obtain⟨mA,O,r,_,_,_⟩:=vn I.hok e;have hn:mA m=none:=RelO.none_of (by rw[<- l];exact r m);exact Cw I.kIn O (c.get m) k.at_ k.fn hn h
def xE{y:V}{Q:Unit->Shared->Prop}(I:Inv X pins σ H s)(e:H a=some (.ins C dx fs))(c:Cls X.K C)(n:NoAttr X.K C f)(hl:fs.length<1000)(ry:RelV y u)(h:∀s',Inv X pins σ (upd H a (.ins C dx (oT f y fs))) s'->Q () s'):wpAny (model X.prog X.w) A (setAttr (.ref a) f u) Q E s:=by
 obtain⟨mA,O,r,wi,_,ho⟩:=vn I.hok e;have hz:(fs.map (·.1)).length<=sizeLine:=by rw[List.length_map,sizeLine_eq];omega
 refine Ed I.kIn O c.sa c.po n.taker c.hd wi hz λh' O' sb=>h _ ?_;have hd:∃o,h'.get? dx=some o:=let⟨o,_,_,e',_⟩:=O'.ns;⟨o,e'⟩;refine I.write (x:=a) (e:=dx) (by rw[e];exact True.intro) (.inr ho) (λb q hb z=>(sb.2 b hb).trans z) hd ?_;refine⟨by rw[aH O.ne];exact ho,?_,O.ne,O'.obj,_,O'.ns,λg=>?_,λg hg=>?_⟩;·have:=lY f y fs;omega
 ·show RelO ((oT f y fs).lookup g) (if g=f then some u else mA g);rw[nz];by_cases q:g=f;·rw[if_pos q,if_pos q];exact ry
  ·rw[if_neg q,if_neg q];exact r g
 ·by_cases q:g=f;·rw[q];exact(lW f y fs).1
  ·refine(lW f y fs).2 g (wi g λz=>hg ?_);show(if g=f then some u else mA g)=none;rw[if_neg q];exact z
def Inv.made(I:Inv X pins σ H s):Inv X pins σ (upd (upd H s.heap.objs.size (.own (s.heap.objs.size+1))) (s.heap.objs.size+1) (.ins C s.heap.objs.size []))
  { s with heap:=(s.heap.push W.emptyDict).push (W.instObj C s.heap.objs.size) }:=by
 have e1:(s.heap.push W.emptyDict).get? s.heap.objs.size=some W.emptyDict:=Heap.get?_push_size s.heap rfl;have e2:((s.heap.push W.emptyDict).push (W.instObj C s.heap.objs.size)).get? (s.heap.objs.size+1)=some (W.instObj C s.heap.objs.size):=by
  have:=Heap.get?_push_size (s.heap.push W.emptyDict) (o:=W.instObj C s.heap.objs.size) rfl
  rwa [Heap.size_push]at this
 have e3:(s.heap.push W.emptyDict).Ns s.heap.objs.size (λ_=>none):=⟨W.emptyDict,#[],_,e1,rfl,(λe he=>absurd he (by simp)),λ_=>rfl⟩
 have I1:=I.laid (a:=s.heap.objs.size) (o:=.own (s.heap.objs.size+1)) (h':=s.heap.push W.emptyDict) (t':=s.toks) (λb u q=>Heap.get?_push_of_some _ q) (Nat.le_refl _) ⟨_,e1⟩;refine I1.laid (a:=s.heap.objs.size+1) (o:=.ins C s.heap.objs.size []) (t':=s.toks) (λb u q=>Heap.get?_push_of_some _ q) (Nat.le_of_eq (Heap.size_push _ _)) ?_;have ne:s.heap.objs.size≠s.heap.objs.size+1:=Nat.ne_of_lt (Nat.lt_succ_self _);refine⟨by rw[aH ne,aS],Nat.zero_le _,ne,e2,λ_=>none,(Heap.Ns1.of_empty e3).at λo q=>Heap.get?_push_of_some _ q,λ_=>True.intro,λy hy=>absurd rfl hy⟩
def Gb{prog:Program}{w:World}{env:Env}{e:Expr}{f:Str}{Q:Value->Shared->Prop}(hb:attributeBase e f env (eval e env)=eval e env)(h:wpAny (model prog w) A (eval e env) (λo s₁=>wpAny (model prog w) A (getAttr o f true) Q E s₁) E s):wpAny (model prog w) A (eval (.Attribute e f pos) env) Q E s:=
 Attribute_any_ h (by rw[arm_eval_Attribute,hb])
end
noncomputable def Nh(K:W.Frag)(ta:TE)(f:Str):TE:=λσ H Q=>ta σ H λx H1=>∃a C dx fs v,x=.ref a/\H1 a=some (.ins C dx fs)/\Cls K C/\NoAttr K C f/\fs.lookup f=some v/\Q v H1
noncomputable def MI(K:W.Frag)(ta tv:TE)(f:Str):TS:=λD σ H=>tv σ H λy H1=>ta σ H1 λx H2=>∃a C dx fs,x=.ref a/\H2 a=some (.ins C dx fs)/\Cls K C/\NoAttr K C f/\fs.length<1000/\
 D.nx σ (upd H2 a (.ins C dx (oT f y fs)))
section
variable{o e value:Expr}{f:Str}{pos' tpos:Pos}{ta tv:TE}
def wa(he:PE X e ta)(hb:attributeBase e f X.env (eval e X.env)=eval e X.env):PE X (.Attribute e f pos) (Nh X.K ta f):=by intro pins s σ H Q I h;refine Gb hb (thn (he pins s σ H _ I h) λu s1 ⟨x,H1,I1,rx,a,C,dx,fs,v,ex,ea,c,n,l,q⟩=>?_);subst ex;obtain rfl:u=Value.ref a:=rx;exact xn I1 ea c n l λu' s2 I2 ru=>⟨v,H1,I2,ru,q⟩
def Jy(ha:PE X o ta)(hv:PE X value tv)(hs:swapsWith value (some (.Attribute o f pos')) pos.line X.env=pure false):PS X (.Assign [.Attribute o f pos'] value pos) (MI X.K ta tv f):=by intro pins s σ H D I h;refine plainObj_wpAny_Assign_Attribute (thn (hv pins s σ H _ I h) λu s1 ⟨y,H1,I1,ry,q⟩=>thn (ha pins s1 σ H1 _ I1 q) λov s2 ⟨x,H2,I2,rx,a,C,dx,fs,ex,ea,c,n,l,q2⟩=>?_) hs;subst ex;obtain rfl:ov=Value.ref a:=rx;exact xE I2 ea c n l ry λs3 I3=>⟨σ,_,I3,q2⟩
end
section
variable{A:Around}{Q:Value->Shared->Prop}{c:Value}{b:Bool}
inductive TyOf(K:W.Frag)(H:Hp):V->Value->Prop where
 |non:TyOf K H .non (.type "NoneType")
 |bl (x:Bool):TyOf K H (.bl x) (.type "bool")
 |int (i:Int):TyOf K H (.int i) (.type "int")
 |str (x:Str):TyOf K H (.str x) (.type "str")
 |flt (x:UInt64):TyOf K H (.flt x) (.type "float")
 |lst {a:Addr} {xs:List V} (e:H a=some (.lst xs)):TyOf K H (.ref a) (.type "list")
 |frz {a:Addr} {o:Obj} {xs:List V} (e:H a=some (.frz o (.lst xs))):TyOf K H (.ref a) (.type "list")
 |tup {a:Addr} {xs:List V} (e:H a=some (.tup xs)):TyOf K H (.ref a) (.type "tuple")
 |dK {a:Addr} {kvs:List (Key×V)} (e:H a=some (.dK kvs)):TyOf K H (.ref a) (.type "dict")
 |dT {a:Addr} {kvs:List (List Key×V)} (e:H a=some (.dT kvs)):TyOf K H (.ref a) (.type "dict")
 |ins {a C dx:Addr} {fs:List (Str×V)} (e:H a=some (.ins C dx fs)) (cl:Cls K C) (ha:W.findIn K (.ref C) "__class__"=some (some (.builtin "object.__class__")))
   (hn:W.specialIn K (.builtin "object.__class__") "__get__"=some (some (.builtin "getset_descriptor.__get__"))) (htk:W.takesIn K (.builtin "object.__class__")=some true)
   (hm:W.mroIn K C (.type "object")=some true):TyOf K H (.ref a) (.ref C)
end
structure Room(k:Nat)(A:Around):Prop where
 hd:A.handled=none
 dp:A.depth+3 * k+5<recursionLimit
 un:A.units+16 * k+200<cLine
def Room.mono{A:Around}(r:Room k A)(h:j<=k):Room j A:=⟨r.hd,by have:=r.dp;omega,by have:=r.un;omega⟩
def Room.deeper{A:Around}(r:Room (k+1) A)(env:Env):Room k (A.deeper env):=
 ⟨r.hd,by have:=r.dp;show A.depth+1+3 * k+5<_;omega,by have:=r.un;show A.units+3+16 * k+200<_;omega⟩
def Room.in1{A:Around}(r:Room (k+1) A):Room k A.in1:=
 ⟨r.hd,by have:=r.dp;show A.depth+3 * k+5<_;omega,by have:=r.un;show A.units+1+16 * k+200<_;omega⟩
def xm{A:Around}{kw:List (Str×Value)}:(A.under (.builtin "type.__call__" ⟨.ref C::us,kw⟩)).depth=A.depth+1:=by first|rfl|simp[Around.under,Code.weight,Code.isCreation,Code.isGuard,Code.isCaller,Code.frames,Code.isFrame,guardIds]
def xI{A:Around}{kw:List (Str×Value)}:(A.under (.builtin "type.__call__" ⟨.ref C::us,kw⟩)).units=A.units+1:=by first|rfl|simp[Around.under,Code.cUnits,Code.frames,Code.isFrame]
def Room.make{A:Around}(r:Room (k+1) A)(C:Addr)(us:List Value)(kw:List (Str×Value)):Room k (A.under (.builtin "type.__call__" ⟨.ref C::us,kw⟩)):=
 ⟨r.hd,by have:=r.dp;rw[xm];omega,by have:=r.un;rw[xI];omega⟩
def Room.depth{A:Around}(r:Room k A):A.depth<recursionLimit:=by have:=r.dp;omega
def Room.units{A:Around}(r:Room k A):A.units+64<cLine:=by have:=r.un;omega
def Room.units0{A:Around}(r:Room k A):A.units<cLine:=by have:=r.un;omega
noncomputable def JS:TA:=λ_ H Q=>Q [] H
noncomputable def zS(ta:TE)(tr:TA):TA:=λσ H Q=>ta σ H λx H1=>tr σ H1 λxs H2=>Q (x::xs) H2
section
variable{e:Expr}{te:TE}{t:TA}
def iy:PA X [] JS:=λ_ _ _ _ H Q I h=>Calls.spliced_nil ⟨[],H,I,.nil,h⟩
def du(ha:PE X e te)(hr:PA X es t)(hs:starEach (e::es) X.env=(false,eval e X.env)::starEach es X.env:=by rfl):PA X (e::es) (zS te t):=by intro pos pins s σ H Q I h;rw[hs];show wpAny _ _ (spliced ((false,eval e X.env)::backTo pos (starEach es X.env))) _ _ s;refine Calls.spliced_cons (thn (ha pins s σ H _ I h) λu s1 ⟨x,H1,I1,r1,q1⟩=>?_);exact thn (hr pos pins s1 σ H1 _ I1 q1) λus s2 ⟨xs,H2,I2,r2,q2⟩=>⟨x::xs,H2,I2,.cons r1 r2,q2⟩
noncomputable def M9(t:TA):TE:=λσ H Q=>t σ H λxs H1=>xs.length<=sizeLine/\∀p,H1 p=none->Q (.ref p) (upd H1 p (.tup xs))
noncomputable def Nz(t:TA):TE:=λσ H Q=>t σ H λxs H1=>xs.length<=sizeLine/\∀p,H1 p=none->Q (.ref p) (upd H1 p (.lst xs))
def Dn {x1} (h:PA X es t):PE X (.Tuple es x1 pos) (M9 t):=by intro pins s σ H Q I hq;refine wpAny_Tuple_spliced (thn (h pos pins s σ H _ I hq) λus s1 ⟨xs,H1,I1,r,z,q⟩=>⟨by rw[<- r.length];exact z,?_⟩);have hf:H1 s1.heap.objs.size=none:=I1.hok.fresh (Nat.le_refl _);refine⟨.ref s1.heap.objs.size,upd H1 s1.heap.objs.size (.tup xs),I1.laid (t':=s1.toks) (λb u e=>Heap.get?_push_of_some _ e) (Nat.le_refl _) ?_,rfl,q _ hf⟩;exact⟨z,us,r,⟨_,Heap.get?_push_size _ rfl,rfl,_,rfl⟩⟩
def GN(h:PA X es t):PE X (.List es pos) (Nz t):=by intro pins s σ H Q I hq;refine wpAny_List_spliced (thn (h pos pins s σ H _ I hq) λus s1 ⟨xs,H1,I1,r,z,q⟩=>⟨by rw[<- r.length];exact z,?_⟩);have hf:H1 s1.heap.objs.size=none:=I1.hok.fresh (Nat.le_refl _);refine⟨.ref s1.heap.objs.size,upd H1 s1.heap.objs.size (.lst xs),I1.laid (t':=s1.toks) (λb u e=>Heap.get?_push_of_some _ e) (Nat.le_refl _) ?_,rfl,q _ hf⟩;exact⟨z,us,0,r,Heap.get?_push_size _ rfl⟩
end
noncomputable abbrev Sp:=List V->Hp->VK->XK->Prop
noncomputable abbrev CXT:=List Env->Hp->Shared->XK->Value->Shared->Prop
structure Env0(P:Program)(w:World)(K:W.Frag)(mg:Str->Option Value)(base:Heap)(A:Around)(outer:List Env)(s:Shared)(H:Hp):Prop where
 frames:A.frames=some outer
 mod:Mod K mg base
 bs:∀b o,base.get? b=some o->s.heap.get? b=some o/\H b=none
 bsz:base.objs.size<=s.heap.objs.size
 funs:s.heap.FunFrames base outer
 frf:∀b∈frs outer,H b=none
 hok:HOk P w H s.heap
 bare:AllBare s.gens
 tabs:TabsIn base H
noncomputable def CE(outer:List Env)(P:Program)(w:World)(H:Hp)(s:Shared)(Q:VK)(u:Value)(s':Shared):Prop:=
 ∃v H',s'.os=s.os/\AllBare s'.gens/\Un (frs outer) [] H H' s.heap s'.heap/\HOk P w H' s'.heap/\RelV v u/\Q v H'
noncomputable def CR(CX:CXT)(outer:List Env)(P:Program)(w:World)(H:Hp)(s:Shared)(Q:VK)(E:XK)(r:Result)(s':Shared):Prop:=
 match r with
 |.ok (.ret u)=>CE outer P w H s Q u s'
 |.ok _=>False
 |.error e=>CX outer H s E e s'
structure FnOk(P:Program)(w:World)(K:W.Frag)(mg:Str->Option Value)(base:Heap)(CX:CXT)(k:Nat)(f:Addr)(fd:FuncData)(ps:List Str)(sp:Sp):Prop where
 len:∀vs H Q E,sp vs H Q E->vs.length=ps.length
 run:∀(A:Around)(outer:List Env)(s:Shared)(H:Hp)(args:Args)(us:List Value)(vs:List V)(Q:VK)(E:XK),Room k A->Env0 P w K mg base A outer s H->BindsTo s fd args (ps.zip us)->Vals vs us->sp vs H Q E->
  codeAny (model P w) A (.call (.ref f) args) (CR CX outer P w H s Q E) s
def FnOk.imp{w:World}{K:W.Frag}{mg:Str->Option Value}{base:Heap}{CX:CXT}{sp sp':Sp}(F:FnOk P w K mg base CX k f fd ps sp)(h:∀vs H Q E,sp' vs H Q E->sp vs H Q E):FnOk P w K mg base CX k f fd ps sp':=
 ⟨λvs H Q E q=>F.len vs H Q E (h _ _ _ _ q),λA outer s H args us vs Q E hr he hb hv hs=>F.run A outer s H args us vs Q E hr he hb hv (h _ _ _ _ hs)⟩
def Env0.make{w:World}{K:W.Frag}{mg:Str->Option Value}{base:Heap}{A:Around}{outer:List Env}(e:Env0 P w K mg base A outer s H)(C:Addr)(us:List Value)(kw:List (Str×Value)):
  Env0 P w K mg base (A.under (.builtin "type.__call__" ⟨.ref C::us,kw⟩)) outer s H:=⟨by first|exact e.frames|(simpa[Around.under,Code.envs,Code.isFrame,pushEnvs]using e.frames),e.mod,e.bs,e.bsz,e.funs,e.frf,e.hok,e.bare,e.tabs⟩
section
def Inv.env0(I:Inv X pins σ H s):Env0 X.prog X.w X.K X.mg X.base X.A X.stack s H:=
 ⟨I.ok.frames,I.ok.mod,I.bs,Nat.le_trans I.ok.bsz I.sz,I.stack,I.stkFree,I.hok,I.bare,I.ok.tabs.un I.base⟩
def Inv.after{Q:VK}(I:Inv X pins σ H s)(h:CE X.stack X.prog X.w H s Q u s'):EP X pins σ Q u s':=by obtain⟨v,H',os,bare,un,hok,r,q⟩:=h;obtain⟨hh,g,d,t,os'⟩:=s';obtain rfl:os'=s.os:=os;exact⟨v,H',I.call (h':=hh) (g':=g) (d':=d) (t':=t) (ch:=[]) un hok bare (λb z=>absurd z (by simp)),r,q⟩
end
noncomputable def Binds(K:W.Frag)(fd:FuncData)(ps:List Str)(ds:List Value):Prop:=
 ∀(s:Shared)(us:List Value),K.In s.heap->(us++ds).length=ps.length->BindsTo s fd ⟨us,[]⟩ (ps.zip (us++ds))
def Binds.all{K:W.Frag}(h:∀us:List Value,us.length=ps.length->bindArgs fd ⟨us,[]⟩=pure (ps.zip us)):Binds K fd ps []:=λs us _ hl=>by rw[List.append_nil]at hl⊢;exact .of_eq (h us hl)
section
variable{CX:CXT}{sp:Sp}{dvs:List V}{ds:List Value}{E:XK}{m:Str}{p apos:Pos}{e o:Expr}{ta:TE}{t:TA}
structure Mk(K:W.Frag)(C f:Addr):Prop where
 makes:W.makesIn K C=true
 init:W.findIn K (.ref C) "__init__"=some (some (.ref f))
 fn:W.isFn K (.ref f)=true
 kp:W.keepIn K (.ref C)=true
end
section
variable{CX:CXT}{ks:List Str}{sp:Sp}{E:XK}{m:Str}{p apos kpos:Pos}{e o:Expr}{kws:List Keyword}{te ta:TE}{t tk:TA}{nm:Option Str}
structure KBinds(K:W.Frag)(fd:FuncData)(ps ks:List Str)(g:List Value->List Value->List Value)(gV:List V->List V->List V):Prop where
 to:∀(s:Shared)(us ws:List Value),K.In s.heap->(g us ws).length=ps.length->BindsTo s fd ⟨us,ks.zip ws⟩ (ps.zip (g us ws))
 rel:∀{vs:List V}{us:List Value}{zs:List V}{ws:List Value},Vals vs us->Vals zs ws->Vals (gV vs zs) (g us ws)
variable{g:List Value->List Value->List Value}{gV:List V->List V->List V}
end
structure FnScope(N P:List Str)(sc:Scope):Prop where
 kind:sc.kind=.function
 co:sc.isCoroutine=false
 gen:sc.isGenerator=false
 nd:N.Nodup
 pre:N.take P.length=P
 par:∀x∈P,sc.names.lookup x=some .local\/sc.names.lookup x=some .cell
 nofree:∀y∈sc.names,y.2≠.free
def sx{kindOf:Str->Option NameKind}{x:Str}:∀{binds:List (Str×Value)}{m:Str->Option Value},(∀v,(x,v)∉binds)->bindL kindOf binds m x=m x
 | [],_,_=>rfl
 | (n,v)::r,m,h=>by
  unfold bindL;rw[sx λw hw=>h w (List.mem_cons_of_mem _ hw)];split
  ·have:x≠n:=by rintro rfl;exact h v List.mem_cons_self
   simp[this]
  ·rfl
def rS{kindOf:Str->Option NameKind}{x:Str}:∀{binds:List (Str×Value)}{m:Str->Option Value},(∀v,(x,v)∉binds)->bindC kindOf binds m x=m x
 | [],_,_=>rfl
 | (n,v)::r,m,h=>by
  unfold bindC;rw[rS λw hw=>h w (List.mem_cons_of_mem _ hw)];split;·rfl
  ·have:x≠n:=by rintro rfl;exact h v List.mem_cons_self
   simp[this]
def rE{kindOf:Str->Option NameKind}{x:Str}{v:Value}:∀{P:List Str}{vs:List Value}{i:Nat}{m:Str->Option Value},P.Nodup->P[i]?=some x->vs[i]?=some v->kindOf x=some .local->
  bindL kindOf (P.zip vs) m x=some v
 | [],_,_,_,_,h,_,_=>by simp at h
 |_::_,[],_,_,_,_,h,_=>by simp at h
 |p::P,w::vs,0,m,nd,h1,h2,hk=>by simp at h1 h2;subst h1;subst h2;show bindL kindOf ((p,w)::P.zip vs) m p=_;unfold bindL;rw[sx λv hv=>(List.nodup_cons.mp nd).1 (List.of_mem_zip hv).1,if_pos hk];simp
 |p::P,w::vs,i+1,m,nd,h1,h2,hk=>by show bindL kindOf ((p,w)::P.zip vs) m x=_;unfold bindL;exact rE (i:=i) (List.nodup_cons.mp nd).2 (by simpa using h1) (by simpa using h2) hk
def rO{kindOf:Str->Option NameKind}{x:Str}{v:Value}:∀{P:List Str}{vs:List Value}{i:Nat}{m:Str->Option Value},P.Nodup->P[i]?=some x->vs[i]?=some v->kindOf x≠some .local->
  bindC kindOf (P.zip vs) m x=some v
 | [],_,_,_,_,h,_,_=>by simp at h
 |_::_,[],_,_,_,_,h,_=>by simp at h
 |p::P,w::vs,0,m,nd,h1,h2,hk=>by simp at h1 h2;subst h1;subst h2;show bindC kindOf ((p,w)::P.zip vs) m p=_;unfold bindC;rw[rS λv hv=>(List.nodup_cons.mp nd).1 (List.of_mem_zip hv).1,if_neg hk];simp
 |p::P,w::vs,i+1,m,nd,h1,h2,hk=>by show bindC kindOf ((p,w)::P.zip vs) m x=_;unfold bindC;exact rO (i:=i) (List.nodup_cons.mp nd).2 (by simpa using h1) (by simpa using h2) hk
noncomputable def jl(N:List Str)(vs:List V):St:=vs.map some++List.replicate (N.length - vs.length) none
noncomputable def fU(CX:CXT)(P:Program)(w:World)(K:W.Frag)(mg:Str->Option Value)(base:Heap)(N:List Str)(qual:Str)(scope:Scope)(f:Addr)(cd:Value)(A:Around)(outer:List Env)(s:Shared)(H:Hp)(E:XK):Cx where
 prog:=P
 w:=w
 K:=K
 mg:=mg
 base:=base
 A:=A.deeper (envOfC qual scope s.heap.objs.size f cd)
 N:=N
 s₀:=s
 H₀:=H
 env:=envOfC qual scope s.heap.objs.size f cd
 outer:=outer
 stack:=envOfC qual scope s.heap.objs.size f cd::outer
 ex:=[]
 calm:=true
 fn:=λ_=>true
 pn:=[]
 xe:=λe s'=>wpAny (model P w) (A.deeper (envOfC qual scope s.heap.objs.size f cd)) (leaving (envOfC qual scope s.heap.objs.size f cd) e) (λ_ s''=>CX outer H s E e s'') (λe' s''=>CX outer H s E e' s'') s'
def wl{sc:Scope}{n:Nat}(h:sc.names.lookup x=some .cell):∃c,(cellsFrom n sc.names []).lookup x=some c:=by have q:=W.cellsFrom_some sc.names n [] (.inl h);exact Option.isSome_iff_exists.mp q
def yx{CX:CXT}{w:World}{K:W.Frag}{mg:Str->Option Value}{base:Heap}{N:List Str}{A:Around}{outer:List Env}{s1:Shared}{E:XK}(S:FnScope N ps scope)(hd:A.handled=none)(e0:Env0 P w K mg base A outer s H)(hl:vs.length=ps.length)(r:Vals vs us)(x:InCallC s s.heap.objs.size (bindL (envOfC qual scope s.heap.objs.size f cd).kindOf (ps.zip us) λ_=>none) (cellsFrom (s.heap.objs.size+1) scope.names []) (bindC (envOfC qual scope s.heap.objs.size f cd).kindOf (ps.zip us) λ_=>none) s1):
  Inv (fU CX P w K mg base N qual scope f cd A outer s H E) [] (jl N vs) H s1:=by
 have hpl:ps.length<=N.length:=by have:=congrArg List.length S.pre;rw[List.length_take]at this;omega
 obtain⟨h1,tk,rfl,hk⟩:=x.done;have noA:∀b:Addr,b∉(fU CX P w K mg base N qual scope f cd A outer s H E).ex:=λb z=>absurd (show b∈([]:List Addr) from z) (by simp);refine⟨⟨e0.mod,S.kind,rfl,rfl,Nat.le_refl _,λy z c h1 h2=>?_,λy hy=>?_,λy c _ h=>?_,λ_=>hd,Around.frames_deeper e0.frames,.inr ⟨rfl,rfl⟩,λb z=>absurd z (noA b),e0.bs,e0.bsz,λb _ _=>noA b,λb z=>absurd z (noA b),e0.funs,e0.frf,e0.tabs⟩,
  rfl,e0.bare,Un.kept hk,⟨_,x.toInCall.ns,λi y v h1 h2 h3=>?_⟩,λy c h=>⟨_,x.cell y c h⟩,e0.hok.fresh (Nat.le_refl _),λy c h=>?_,λp hp=>absurd (show p∈([]:List (Addr×Obj)) from hp) (by simp),e0.hok.kept hk,?_⟩;·exact name_of_addr x.apart (PySem.mem_of_lookup h1) (PySem.mem_of_lookup h2)
 ·have hy:scope.names.lookup y=some .cell\/scope.names.lookup y=some .free:=hy;rcases hy with hy|hy;·exact wl hy
  ·exact absurd rfl (S.nofree _ (PySem.mem_of_lookup hy))
 ·exact Nat.le_of_lt (x.above y c (PySem.mem_of_lookup h))
 ·have hi:i<vs.length:=by
   unfold jl at h2;by_cases hi:i<vs.length;·exact hi
   ·rw[List.getElem?_append_right (by simpa using hi)]at h2;rw[List.getElem?_replicate]at h2;split at h2 <;> cases h2
  have ha:vs[i]?=some v:=by
   unfold jl at h2;rw[List.getElem?_append_left (by simpa using hi),List.getElem?_map]at h2;cases e:vs[i]? with
   |none=>rw[e]at h2;cases h2
   |some a=>rw[e]at h2;cases h2;rfl
  obtain⟨u,hu,rv⟩:=r.get ha;have hp:ps[i]?=some y:=by rw[<- S.pre,List.getElem?_take_of_lt (by omega)];exact h1
  have ndP:ps.Nodup:=by rw[<- S.pre];exact S.nd.sublist (List.take_sublist _ _)
  refine⟨u,rv,?_⟩;rcases S.par y (List.mem_of_getElem? hp)with k|k;·exact .inl ⟨k,rE ndP hp hu k⟩
  ·obtain⟨c,e⟩:=wl (n:=s.heap.objs.size+1) k;refine .inr ⟨.inl k,c,e,?_⟩;have q:=x.cell y c e;rw[rO ndP hp hu (by show scope.names.lookup y≠_;rw[k];decide)]at q;exact q
 ·exact e0.hok.fresh (Nat.le_of_lt (x.above y c (PySem.mem_of_lookup h)))
 ·unfold jl;show _=N.length;rw[List.length_append,List.length_map,List.length_replicate];omega
def CO{CX:CXT}{w:World}{K:W.Frag}{mg:Str->Option Value}{base:Heap}{name:Str}{params:Arguments}{body:List Stmt}{dV kV pm ct:Value}{N:List Str}{sp:Sp}(lk:K.lookup f=some ⟨oc,od,.func (W.fnOf name qual params body scope dV kV doc pm an cdv ct),osl⟩)(hcd:W.codeIn K cdv qual=true)(S:FnScope N ps scope)(len:∀vs H Q E,sp vs H Q E->vs.length=ps.length)(hbody:∀(A:Around)(outer:List Env)(s:Shared)(H:Hp)(vs:List V)(Q:VK)(E:XK),Room k (A.deeper (envOfC qual scope s.heap.objs.size f cdv))->sp vs H Q E->
 ∃t,PSs (fU CX P w K mg base N qual scope f cdv A outer s H E) body t/\t { nx:=λ_ H'=>Q .non H',rt:=Q } (jl N vs) H):
  FnOk P w K mg base CX (k+1) f (W.fnOf name qual params body scope dV kV doc pm an cdv ct) ps sp:=by
 refine⟨len,λA outer s H args us vs Q E hr e0 hb r hsp=>?_⟩;have hl:=len _ _ _ _ hsp;have KX:K.In s.heap:=e0.mod.kin.keeps λb o e=>(e0.bs b o e).1;have lim:s.heap.NoLimit:=e0.mod.nolimit.keeps λb o e=>(e0.bs b o e).1;have hkind:∀y∈ps.zip us,scope.names.lookup y.1=some .local\/(scope.names.lookup y.1=some .cell/\((cellsFrom (s.heap.objs.size+1) scope.names []).lookup y.1).isSome=true):=λ⟨n,v⟩ hy=>by
  rcases S.par n (List.of_mem_zip hy).1 with q|q;·exact .inl q
  ·exact .inr ⟨q,W.cellsFrom_some _ _ _ (.inl q)⟩
 refine codeAny_call_function hr.depth (KX _ _ lk) rfl S.co S.gen rfl (W.codeRec_of KX hcd) (hb _ _ _ _ ?_);refine wpAny_newFunctionEnv_cells S.kind hkind λenv he s1 x=>?_;subst he;refine⟨lim.keeps x.toInCall.keep,codeAny_func ?_⟩;obtain⟨t,ht,hq⟩:=hbody A outer s H vs Q E (hr.deeper _) hsp;have I:Inv (fU CX P w K mg base N qual scope f cdv A outer s H E) [] (jl N vs) H s1:=yx S hr.hd e0 hl r x;refine wpAny_mono (ht [] s1 (jl N vs) H _ I hq) (λfl s' hs=>?_) λe s' hs=>hs;have fin:∀{σ':St}{H':Hp}{v:V}{u:Value},Inv (fU CX P w K mg base N qual scope f cdv A outer s H E) [] σ' H' s'->RelV v u->Q v H'->CE outer P w H s Q u s':=
  λ{σ' H' v u} J rv q=>⟨v,H',J.os,J.bare,J.base,J.hok,rv,q⟩
 cases fl with
 |ret u=>obtain⟨v,σ',H',J,rv,q⟩:=hs;exact fin J rv q
 |next=>obtain⟨σ',H',J,q⟩:=hs;exact fin (v:=V.non) (u:=Value.none) J rfl q
 |brk=>obtain⟨_,_,_,q⟩:=hs;exact False.elim q
 |cont=>obtain⟨_,_,_,q⟩:=hs;exact False.elim q
end L2
variable{CX:L2.CXT}
namespace L2
open PySem PySem.Spec PyProof.Rows
section
variable{p:Pos}{e:Expr}{t:TA}{id T:String}{r:List V->Hp->VK->Prop}
noncomputable def tCB(r:List V->Hp->VK->Prop)(t:TA):TE:=λσ H Q=>t σ H λvs H1=>r vs H1 Q
def oZ(hc:kI X (.builtin id) r)(hg:Gl X x)(hm:X.mg x=none)(hv:bootBuiltins x=some (.builtin id))(ha:PA X (e::es) t)(hn:x≠"__name__":=by decide)(hdb:(x==("__debug__":Str))=false:=by decide)(he:starEach (e::es) X.env=(false,eval e X.env)::starEach es X.env:=by rfl)(hpl:(backTo pos (starEach es X.env)).any (·.1)=false:=by rfl):PE X (.Call (.Name x p) (e::es) [] pos) (tCB r t):=by
 intro pins s σ H Q I h;refine wpAny_Call_Name_kw (jk I hg hm hv ?_ hn hdb);exact callWith_builtin1 (thn (ha pos pins s σ H _ I h) λus s1 ⟨vs,H1,I1,r1,q1⟩=>hc pins s1 σ H1 vs us Q I1 r1 q1) he hpl
def mZ(hc:kI X (.type T) r)(hg:Gl X x)(hm:X.mg x=none)(hv:bootBuiltins x=some (.type T))(ha:PA X (e::es) t)(hn:x≠"__name__":=by decide)(hdb:(x==("__debug__":Str))=false:=by decide)(he:starEach (e::es) X.env=(false,eval e X.env)::starEach es X.env:=by rfl)(hpl:(backTo pos (starEach es X.env)).any (·.1)=false:=by rfl):PE X (.Call (.Name x p) (e::es) [] pos) (tCB r t):=by
 intro pins s σ H Q I h;refine wpAny_Call_Name_kw (jk I hg hm hv ?_ hn hdb);exact callWith_type1 (thn (ha pos pins s σ H _ I h) λus s1 ⟨vs,H1,I1,r1,q1⟩=>hc pins s1 σ H1 vs us Q I1 r1 q1) he hpl
end
end L2
namespace HT
open PySem PyProof.Rows
section
open PySem.SeqAt
open PySem.AutoSeq1 (wpAny_loadPart')
open PySem.MeetsSeq PySem.MeetsSeq2 PySem.MeetsSeq3
end
section
variable{prog:Program}{w:World}{A:Around}
def cat_tup{t:Addr}{vs ws:List Value}{Q:Value->Shared->Prop}(ht:IsTup s.heap t vs.toArray)(hb:IsTup s.heap b ws.toArray)(hv:vs≠[])(h1:ws=[]->Q (.ref t) s)(h2:ws≠[]->Q (.ref s.heap.objs.size) { s with heap:=s.heap.push { cls:=.type "tuple",data:=.seq (vs++ws).toArray } })(hsz:vs.length+ws.length<=sizeLine):wpAny (model prog w) A (binaryOp .Add (.ref t) (.ref b)) Q E s:=by
 obtain⟨⟨cls,dd,data,sl⟩,ho,hc,n,hd⟩:=id ht;obtain⟨⟨cls2,dd2,data2,sl2⟩,ho2,hc2,n2,hd2⟩:=id hb;simp only at hc hd hc2 hd2;subst hc hd hc2 hd2;have e:vs.toArray++ws.toArray=(vs++ws).toArray:=by simp
 by_cases hw:ws=[]
 ·exact concat_meets ⟨_,ho,rfl⟩ ⟨_,ho2,rfl⟩ noFill_tuple_add seq_tuple_add F.slot_tuple_add F.entry_tuple_add (F.args_tuple_add_2 _ _)
   (tuple_addW1 t b vs.toArray ws.toArray n n2 dd dd2 sl sl2 (by simpa using hv) (by simp[hw])) ⟨ho,ho2,h1 hw⟩
 ·refine concat_meets ⟨_,ho,rfl⟩ ⟨_,ho2,rfl⟩ noFill_tuple_add seq_tuple_add F.slot_tuple_add F.entry_tuple_add (F.args_tuple_add_2 _ _)
   (tuple_addW2 t b vs.toArray ws.toArray n n2 dd dd2 sl sl2 (by simpa using hv) (by simpa using hw) (by rw[List.size_toArray,List.size_toArray];exact hsz)) ⟨ho,ho2,?_⟩;rw[e];exact h2 hw
noncomputable def sIx(n d:Nat):Option Int->Nat
 |none=>d
 |some v=>if v<0 then (v+(n:Int)).toNat else min v.toNat n
def sIx_none(n d:Nat):sIx n d none=d:=rfl
def sIx_nat(n d k:Nat):sIx n d (some (k:Int))=min k n:=by show(if (k:Int)<0 then ((k:Int)+(n:Int)).toNat else min (k:Int).toNat n)=min k n;rw[if_neg (by omega),Int.toNat_natCast]
def sIx_le(n d:Nat)(hd:d<=n)(o:Option Int):sIx n d o<=n:=by
 cases o with
 |none=>exact hd
 |some v=>
  show(if v<0 then (v+(n:Int)).toNat else min v.toNat n)<=n;by_cases hv:v<0;·rw[if_pos hv];omega
  ·rw[if_neg hv];exact Nat.min_le_right _ _
def Ao(v:Int)(n d:Nat):(if v<0 then max (v+(n:Int)) 0 else min v (n:Int))=((sIx n d (some v):Nat):Int):=by
 show(if v<0 then max (v+(n:Int)) 0 else min v (n:Int))=(((if v<0 then (v+(n:Int)).toNat else min v.toNat n):Nat):Int);by_cases hv:v<0;·simp only[if_pos hv];omega
 ·simp only[if_neg hv];omega
def wR(lo hi:Option Int)(n:Nat):Builtin.Slice.sliceAdjust lo hi 1 (n:Int)=(((sIx n 0 lo:Nat):Int),((sIx n n hi:Nat):Int)):=by
 have h1 : ¬ ((1:Int)<0):=by omega
 unfold Builtin.Slice.sliceAdjust;simp only[h1,if_false];refine Prod.ext ?_ ?_
 ·cases lo with
  |none=>rfl
  |some v=>exact Ao v n 0
 ·cases hi with
  |none=>rfl
  |some v=>exact Ao v n n
def xk(i j:Nat):Builtin.Slice.slicePlaces (i:Int) (j:Int) 1=j - i:=by
 unfold Builtin.Slice.slicePlaces;have h1:(1:Int) > 0:=by omega
 simp only[h1,if_true,Int.ediv_one];split <;> omega
def oX{v:Value}{o:Option Int}{Q:Option Int->Shared->Prop}(p:IsPart v o)(h:Q o s):wpAny (model prog w) A (Builtin.Slice.slicePartIndex v) Q E s:=by
 cases p with
 |none=>exact slicePart_none h
 |int i t=>exact slicePart_int h
def sliceApplied_gen{sl:Addr}{vl vu:Value}{lo hi:Option Int}{n:Nat}{Q:Int×Int×Nat->Shared->Prop}(hs:s.heap.IsSliceOf sl vl vu .none)(pl:IsPart vl lo)(pu:IsPart vu hi)(h:Q (((sIx n 0 lo:Nat):Int),1,sIx n n hi - sIx n 0 lo) s):wpAny (model prog w) A (Builtin.Slice.sliceApplied (.ref sl) (pure (n:Int))) Q E s:=by
 obtain⟨os,hos,hcs,hds⟩:=id hs;unfold Builtin.Slice.sliceApplied Builtin.Slice.sliceFields;refine wpAny_bind (wpAny_bind (wpAny_field hos hds (x:=vl) rfl (wpAny_bind (wpAny_field hos hds (x:=vu) rfl (wpAny_bind (wpAny_field hos hds (x:=.none) rfl (wpAny_pure ?_)))))));refine wpAny_bind (slicePart_none ?_);show wpAny _ _ (if ((1:Int)==0)=true then _ else _) _ _ s;rw[if_neg (by decide)];refine wpAny_bind (oX pl (wpAny_bind (oX pu (wpAny_bind (wpAny_pure ?_)))));show wpAny _ _ (match Builtin.Slice.sliceAdjust lo hi 1 (n:Int)with|(lo,hi)=>pure (lo,(1:Int),Builtin.Slice.slicePlaces lo hi 1)) _ _ s;rw[wR lo hi n];show wpAny _ _ (pure (((sIx n 0 lo:Nat):Int),(1:Int),Builtin.Slice.slicePlaces ((sIx n 0 lo:Nat):Int) ((sIx n n hi:Nat):Int) 1)) _ _ s;rw[xk];exact wpAny_pure h
def CU(xs:Array Value)(i k:Nat):((List.range k).filterMap λ(m:Nat)=>xs[((i:Int)+(m:Int) * 1).toNat]?).toArray=((xs.toList.drop i).take k).toArray:=by
 have e:(λ(m:Nat)=>xs[((i:Int)+(m:Int) * 1).toNat]?)=λm=>xs[i+m]?:=by
  funext m
  have:((i:Int)+(m:Int) * 1).toNat=i+m:=by omega
  rw[this]
 rw[e];have:=pick_run xs i k;rw[List.filterMap_map]at this;have e2:((λx=>xs[x]?) ∘ λx=>i+x)=λm=>xs[i+m]?:=rfl;rw[e2]at this;rw[this]
def getItem_tuple_cut{t sl:Addr}{items:Array Value}{vl vu:Value}{lo hi:Option Int}{Q:Value->Shared->Prop}(ht:IsTup s.heap t items)(hs:s.heap.IsSliceOf sl vl vu .none)(pl:IsPart vl lo)(pu:IsPart vu hi)(hw : ¬ (sIx items.size 0 lo=0/\sIx items.size items.size hi=items.size))(h:Q (.ref s.heap.objs.size) { s with heap:=s.heap.push { cls:=.type "tuple",data:=.seq ((items.toList.drop (sIx items.size 0 lo)).take (sIx items.size items.size hi - sIx items.size 0 lo)).toArray } })(hsz:items.size<=sizeLine):wpAny (model prog w) A (getItem (.ref t) (.ref sl)) Q E s:=by
 have htake:sizeOk (.seq ((items.toList.drop (sIx items.size 0 lo)).take (sIx items.size items.size hi - sIx items.size 0 lo)).toArray):=by show((items.toList.drop (sIx items.size 0 lo)).take (sIx items.size items.size hi - sIx items.size 0 lo)).toArray.size<=sizeLine;rw[List.size_toArray,List.length_take,List.length_drop,Array.length_toList];omega
 have hj:sIx items.size items.size hi<=items.size:=sIx_le _ _ (Nat.le_refl _) hi;obtain⟨os,hos,hcs,hds⟩:=id hs;have hTs:s.TypeIs (.ref sl) "slice":=⟨os,hos,hcs⟩
 unfold getItem
 try with_reducible refine wpAny_holding ?_
 first|refine wpAny_bind (wpAny_pure ?_)|skip
 refine wpAny_bind (wpAny_sequenceKey ht.typeIs (by decide) ?_);refine wpAny_bind (wpAny_callSpecial?_slot (name:=Str.ofString "__getitem__") ht.typeIs slot_tuple_getitem
  (wpAny_call_entry slot_tuple_getitem ht.typeIs entry_tuple_getitem ?_ (args_tuple_getitem _ _)));show wpAny _ _ (Builtin.Tuple.tupleItemsOf (.ref t)>>=_) _ _ s;refine wpAny_bind (tupleItemsOf_ ht ?_);refine wpAny_bind (wpAny_typeOf hTs ?_);rw[if_pos (by decide)];refine wpAny_bind (sliceApplied_gen hs pl pu ?_);have hno : ¬ ((((sIx items.size 0 lo:Nat):Int)==0 && (1:Int)==1 && (sIx items.size items.size hi - sIx items.size 0 lo)==items.size)=true):=by
  intro q;rw[Bool.and_eq_true,Bool.and_eq_true]at q;have q1:((sIx items.size 0 lo:Nat):Int)=0:=eq_of_beq q.1.1;have q2:sIx items.size items.size hi - sIx items.size 0 lo=items.size:=eq_of_beq q.2;exact hw ⟨by omega,by omega⟩
 show wpAny _ _ (if (((sIx items.size 0 lo:Nat):Int)==0 && (1:Int)==1 && (sIx items.size items.size hi - sIx items.size 0 lo)==items.size)=true then _ else _) _ _ s;rw[if_neg hno,CU]
 first
  |exact wpAny_bind (m:=Builtin.Tuple.tupleExact _) (wpAny_newObj_type (wpAny_pure ⟨_,rfl,wpAny_pure h⟩) htake)
  |exact wpAny_bind (m:=Builtin.Tuple.tupleExact _) (wpAny_newObj_type (wpAny_bind (wpAny_pure (wpAny_pure ⟨_,rfl,wpAny_pure h⟩))) htake)
  |exact wpAny_bind (wpAny_bind (m:=Builtin.Tuple.tupleExact _) (wpAny_newObj_type (wpAny_pure (wpAny_pure ⟨_,rfl,wpAny_pure h⟩)) htake))
  |exact wpAny_bind (wpAny_bind (m:=Builtin.Tuple.tupleExact _) (wpAny_newObj_type (wpAny_pure ⟨_,rfl,wpAny_pure h⟩) htake))
end
end HT
namespace L2
open PySem PySem.Spec PyProof.Rows
noncomputable abbrev TO:=St->Hp->(Option Int->Hp->Prop)->Prop
noncomputable def PO(X:Cx)(e:Option Expr)(t:TO):Prop:=
 ∀(pins:List (Addr×Obj))(s:Shared)(σ:St)(H:Hp)(Q:Option Int->Hp->Prop),Inv X pins σ H s->t σ H Q->
  wpAny (model X.prog X.w) X.A (evalPart e X.env) (λu s'=>∃o H',Inv X pins σ H' s'/\IsPart u o/\Q o H') X.xe s
noncomputable def Gi:TO:=λ_ H Q=>Q none H
noncomputable def Ks(t:TE):TO:=λσ H Q=>t σ H λx H1=>∃i,x=.int i/\Q (some i) H1
section
variable{e:Expr}{te:TE}{lo hi:Option Expr}{tl th:TO}{p2:Pos}
def FQ:PO X none Gi:=by intro pins s σ H Q I h;rw[evalPart_none];exact wpAny_pure ⟨none,H,I,.none,h⟩
def E5(h:PE X e te):PO X (some e) (Ks te):=by intro pins s σ H Q I hw;rw[evalPart_some];refine thn (h pins s σ H _ I hw) λu s1 ⟨x,H1,I1,r1,q1⟩=>?_;obtain⟨i,rfl,q⟩:=q1;obtain⟨t,rfl⟩:=r1;exact⟨some i,H1,I1,.int i t,q⟩
noncomputable def SlR(X:Cx)(r:V->Option Int->Option Int->Hp->VK->Prop):Prop:=
 ∀(pins:List (Addr×Obj))(s:Shared)(σ:St)(H:Hp)(x:V)(v vl vu:Value)(lo hi:Option Int)(sl:Addr)(Q:VK),Inv X pins σ H s->RelV x v->s.heap.IsSliceOf sl vl vu .none->IsPart vl lo->IsPart vu hi->r x lo hi H Q->
  ∃T id,typeLookup (.type T) "__getitem__"=pure (some (.builtin id))/\s.TypeIs v T/\wpAny (model X.prog X.w) X.A (getItem v (.ref sl)) (EP X pins σ Q) X.xe s
def SlR.or{r r':V->Option Int->Option Int->Hp->VK->Prop}(h:SlR X r)(h':SlR X r'):SlR X (λx lo hi H Q=>r x lo hi H Q\/r' x lo hi H Q):=by
 intro pins s σ H x v vl vu lo hi sl Q I rx hs pl pu q;rcases q with q|q;·exact h pins s σ H x v vl vu lo hi sl Q I rx hs pl pu q
 ·exact h' pins s σ H x v vl vu lo hi sl Q I rx hs pl pu q
noncomputable def tSl(r:V->Option Int->Option Int->Hp->VK->Prop)(te:TE)(tl th:TO):TE:=λσ H Q=>te σ H λx H1=>tl σ H1 λl H2=>th σ H2 λu H3=>r x l u H3 Q
def Bs{r:V->Option Int->Option Int->Hp->VK->Prop}(hr:SlR X r)(he:PE X e te)(hl:PO X lo tl)(hu:PO X hi th):PE X (.Subscript e (.Slice lo hi none p2) pos) (tSl r te tl th):=by intro pins s σ H Q I h;refine Subscript_ (thn (he pins s σ H _ I h) λv s1 ⟨x,H1,I1,r1,q1⟩=>?_);refine wpAny_Slice (thn (hl pins s1 σ H1 _ I1 q1) λvl s2 ⟨l,H2,I2,pl,q2⟩=>thn (hu pins s2 σ H2 _ I2 q2) λvu s3 ⟨u,H3,I3,pu,q3⟩=>?_);rw[evalPart_none];refine wpAny_pure ?_;have I4:Inv X pins σ H3 { s3 with heap:=s3.heap.push { cls:=.type "slice",data:=.fields #[vl,vu,.none] } }:=I3.kept (t':=s3.toks) λb ob q=>Heap.get?_push_of_some _ q;obtain⟨T,id,hT,ht,hg⟩:=hr pins { s3 with heap:=s3.heap.push { cls:=.type "slice",data:=.fields #[vl,vu,.none] } } σ H3 x v vl vu l u s3.heap.objs.size Q I4 r1 (Heap.IsSliceOf.new ..) pl pu q3;show wpAny (model X.prog X.w) X.A (subscriptTail e (.Slice lo hi none p2) v (.ref s3.heap.objs.size)) (EP X pins σ Q) X.xe { s3 with heap:=s3.heap.push { cls:=.type "slice",data:=.fields #[vl,vu,.none] } };exact tail_any (ops:=[.ref s3.heap.objs.size,v]) ht hT hg (by with_unfolding_all rfl)
noncomputable def Dp(xs:List V)(lo hi:Option Int):List V:=(xs.drop (HT.sIx xs.length 0 lo)).take (HT.sIx xs.length xs.length hi - HT.sIx xs.length 0 lo)
def lZ(xs:List V)(lo hi:Option Int):(Dp xs lo hi).length<=xs.length:=by unfold Dp;rw[List.length_take,List.length_drop];omega
noncomputable def Mq(K:W.Frag):V->Option Int->Option Int->Hp->VK->Prop:=λx lo hi H Q=>∃a xs,x=.ref a/\SqT K H a xs/\
 ¬ (HT.sIx xs.length 0 lo=0/\HT.sIx xs.length xs.length hi=xs.length)/\∀p,H p=none->Q (.ref p) (upd H p (.tup (Dp xs lo hi)))
def sl_tup:SlR X (Mq X.K):=by
 intro pins s σ H x v vl vu lo hi sl Q I rx hs pl pu h;obtain⟨a,xs,rfl,hx,hw,q⟩:=h;cases rx;obtain⟨its,r,ht,hz⟩:=I.tuple hx;have hlen:its.toArray.size=xs.length:=by rw[List.size_toArray];exact r.length.symm
 refine⟨"tuple",_,slot_tuple_getitem.lookup,ht.typeIs,?_⟩;refine HT.getItem_tuple_cut ht hs pl pu (by rw[hlen];exact hw) ?_ (by rw[hlen];exact hz);rw[hlen];refine⟨.ref s.heap.objs.size,_,I.laid (t':=s.toks) (o:=.tup (Dp xs lo hi)) (λb ob q=>Heap.get?_push_of_some _ q) (Nat.le_refl _) ?_,rfl,q _ (I.hok.fresh (Nat.le_refl _))⟩;exact⟨Nat.le_trans (lZ xs lo hi) hz,_,(r.drop (HT.sIx xs.length 0 lo)).take (HT.sIx xs.length xs.length hi - HT.sIx xs.length 0 lo),IsTup.new _ _⟩
noncomputable def LC(K:W.Frag):R2:=λx y H Q=>∃a b xs ys,x=.ref a/\y=.ref b/\SqT K H a xs/\SqT K H b ys/\xs≠[]/\xs.length+ys.length<=sizeLine/\
 (ys=[]->Q (.ref a) H)/\(ys≠[]->∀p,H p=none->Q (.ref p) (upd H p (.tup (xs++ys))))
def Vals.nil_iff(r:Vals xs us):us=[] ↔ xs=[]:=by
 cases r with
 |nil=>simp
 |cons _ _=>simp
def Fg:OpR X (binaryOp .Add) (LC X.K):=by intro pins s σ H x y v u Q I rx ry h;obtain⟨a,b,xs,ys,rfl,rfl,ha,hb,hx,hz,q1,q2⟩:=h;cases rx;cases ry;obtain⟨its,r1,p1,_⟩:=I.tuple ha;obtain⟨its2,r2,p2,_⟩:=I.tuple hb;refine HT.cat_tup p1 p2 (λz=>hx (r1.nil_iff.mp z)) (λz=>⟨.ref a,H,I,rfl,q1 (r2.nil_iff.mp z)⟩) (λz=>?_) (by rw[<- r1.length,<- r2.length];exact hz);refine⟨.ref s.heap.objs.size,_,I.laid (t':=s.toks) (o:=.tup (xs++ys)) (λb ob q=>Heap.get?_push_of_some _ q) (Nat.le_refl _) ?_,rfl,q2 (λw=>z (r2.nil_iff.mpr w)) _ (I.hok.fresh (Nat.le_refl _))⟩;exact⟨by rw[List.length_append];exact hz,_,r1.append r2,IsTup.new _ _⟩
end
noncomputable def ixN(n:Nat)(i:Int):Option Nat:=if 0<=i then (if i<n then some i.toNat else none)else if -(n:Int)<=i then some (i+n).toNat else none
noncomputable def atI{α:Type}(xs:List α)(i:Int):Option α:=(ixN xs.length i).bind λj=>xs[j]?
def yu{n:Nat}{i:Int}(h:ixN n i=some j):seqIndex? i n=some j/\j<n/\-(n:Int)<=i/\i<n:=by
 unfold ixN at h;by_cases h0:0<=i
 ·rw[if_pos h0]at h;by_cases h1:i<n;·rw[if_pos h1]at h;have e:i.toNat=j:=Option.some.inj h;exact⟨by rw[seqIndex_of h0 h1,e],by omega,by omega,h1⟩
  ·rw[if_neg h1]at h;cases h
 ·rw[if_neg h0]at h;by_cases h1 : -(n:Int)<=i;·rw[if_pos h1]at h;have e:(i+n).toNat=j:=Option.some.inj h;exact⟨by rw[seqIndex_neg (by omega) h1,e],by omega,h1,by omega⟩
  ·rw[if_neg h1]at h;cases h
def vj{α:Type}{xs:List α}{i:Int}{v:α}(h:atI xs i=some v):∃j,seqIndex? i xs.length=some j/\xs[j]?=some v/\j<xs.length/\-(xs.length:Int)<=i/\i<xs.length:=by
 unfold atI at h;cases e:ixN xs.length i with
 |none=>rw[e]at h;cases h
 |some j=>rw[e]at h;obtain⟨h1,h2,h3,h4⟩:=yu e;exact⟨j,h1,h,h2,h3,h4⟩
def pj{α:Type}{xs:List α}{v:α}(h:xs[j]?=some v):atI xs (j:Int)=some v:=by
 have hj:j<xs.length:=(List.getElem?_eq_some_iff.mp h).1;have e:ixN xs.length (j:Int)=some j:=by unfold ixN;rw[if_pos (by omega),if_pos (by omega)];simp
 unfold atI;rw[e];exact h
noncomputable def pL(b:Expr):Prop:=∀o i,subscripted b false o i=operate [o,i] (getItem o i)
noncomputable def IxR(X:Cx)(r:R2):Prop:=
 ∀(value slice:Expr)(pins:List (Addr×Obj))(s:Shared)(σ:St)(H:Hp)(x y:V)(v u:Value)(Q:VK),Inv X pins σ H s->RelV x v->RelV y u->r x y H Q->
  subscripted slice false v u=operate [v,u] (getItem v u)->wpAny (model X.prog X.w) X.A (subscriptTail value slice v u) (EP X pins σ Q) X.xe s
noncomputable def MtR(X:Cx)(id:String)(r:V->List V->Hp->VK->Prop):Prop:=
 ∀(pins:List (Addr×Obj))(s:Shared)(σ:St)(H:Hp)(x:V)(xs:List V)(v:Value)(us:List Value)(Q:VK),Inv X pins σ H s->RelV x v->Vals xs us->r x xs H Q->
  wpAny (model X.prog X.w) X.A (call (.builtin id) (v::us)) (EP X pins σ Q) X.xe s
section
variable{a b:Expr}{ta tb:TE}
def IxR.or{r r':R2}(h:IxR X r)(h':IxR X r'):IxR X (λx y H Q=>r x y H Q\/r' x y H Q):=by
 intro value slice pins s σ H x y v u Q I rx ry q hs;rcases q with q|q;·exact h value slice pins s σ H x y v u Q I rx ry q hs
 ·exact h' value slice pins s σ H x y v u Q I rx ry q hs
def Fc{r:R2}(hr:IxR X r)(ha:PE X a ta)(hb:PE X b tb)(hs:pL b):PE X (.Subscript a b pos) (tOp r ta tb):=by intro pins s σ H Q I h;exact Subscript_ (LZ ha hb I h λv u s2 x y H2 I2 rx ry q=>hr a b pins s2 σ H2 x y v u Q I2 rx ry q (hs _ _))
noncomputable def Ml(K:W.Frag):R2:=λx y H Q=>∃p xs i v,x=.ref p/\y=.int i/\SqL K H p xs/\atI xs i=some v/\Q v H
noncomputable def Mt(K:W.Frag):R2:=λx y H Q=>∃p xs i v,x=.ref p/\y=.int i/\SqT K H p xs/\atI xs i=some v/\Q v H
noncomputable def L5:R2:=λx y H Q=>∃z i c,x=.str z/\y=.int i/\z.length<=sizeLine/\atI z.cps.toList i=some c/\Q (.str ⟨#[c]⟩) H
def ix_list:IxR X (Ml X.K):=by
 intro value slice pins s σ H x y v u Q I rx ry h hs;obtain⟨p,xs,i,z,rfl,rfl,hq,he,q⟩:=h;cases rx;obtain⟨t,rfl⟩:=ry;obtain⟨its,r,pl,hz⟩:=I.list hq;obtain⟨j,h1,h2,h3,h4,h5⟩:=vj he;obtain⟨w,ew,rw'⟩:=r.get h2;have hl:=r.length;have hn:=mX;have fin:EP X pins σ Q w s:=⟨z,H,I,rw',q⟩
 by_cases h0:0<=i
 ·have hj:i.toNat=j:=by rw[seqIndex_of h0 h5]at h1;exact Option.some.inj h1
  exact item_listR pl.isList h0 (by omega) (by rw[hj];simpa using ew) fin hs
 ·have hj:(i+(its.toArray.size:Int)).toNat=j:=by rw[seqIndex_neg (by omega) h4]at h1;rw[List.size_toArray,<- hl];exact Option.some.inj h1
  exact subscriptTail_builtinR (x:=w) pl.isList.typeIs slot_list_getitem.lookup
   (wpAny_getItem_list_neg (Q:=λr s'=>r=w/\EP X pins σ Q r s') pl.isList (by omega) (by rw[List.size_toArray] <;> omega) (by omega) (by rw[hj];simpa using ew) ⟨rfl,fin⟩) hs
def ix_tup:IxR X (Mt X.K):=by
 intro value slice pins s σ H x y v u Q I rx ry h hs;obtain⟨p,xs,i,z,rfl,rfl,hq,he,q⟩:=h;cases rx;obtain⟨t,rfl⟩:=ry;obtain⟨its,r,pl,hz⟩:=I.tuple hq;obtain⟨j,h1,h2,h3,h4,h5⟩:=vj he;obtain⟨w,ew,rw'⟩:=r.get h2;have hl:=r.length;have hn:=mX;have fin:EP X pins σ Q w s:=⟨z,H,I,rw',q⟩
 exact subscriptTail_builtinR (x:=w) pl.typeIs slot_tuple_getitem.lookup
  (getItem_tuple (j:=j) (Q:=λr s'=>r=w/\EP X pins σ Q r s') pl (by omega) (by omega) (by rw[List.size_toArray,<- hl];exact h1) (by simpa using ew) ⟨rfl,fin⟩) hs
def Ip:IxR X L5:=by
 intro value slice pins s σ H x y v u Q I rx ry h hs;obtain⟨z,i,c,rfl,rfl,hz,he,q⟩:=h;obtain⟨t,rfl⟩:=rx;obtain⟨t',rfl⟩:=ry;obtain⟨j,h1,h2,h3,h4,h5⟩:=vj he;have hl:z.cps.toList.length=z.length:=by simp[Str.length]
 rw[hl]at h1 h4 h5;have hn:=mX;exact tail_any (typeIs_str s z t) slot_str_getitem.lookup (getItem_str (c:=c) (by have e1:decide (i < -(2 ^ 63:Int))=false:=decide_eq_false (by omega);have e2:decide (i ≥ 2 ^ 63)=false:=decide_eq_false (by omega);rw[e1,e2,Bool.or_false]) (by rw[h1];simpa using h2) ⟨.str ⟨#[c]⟩,H,I.tok _,⟨_,rfl⟩,q⟩) hs
noncomputable def rIx(K:W.Frag):R2:=λx y H Q=>Ml K x y H Q\/Mt K x y H Q\/L5 x y H Q
def IH:IxR X (rIx X.K):=ix_list.or (ix_tup.or Ip)
def xT(its:List Value)(n j:Nat)(u:Value):Obj.mapSeq (·.setIfInBounds j u) { cls:=.type "list",data:=.seq its.toArray n }={ cls:=.type "list",data:=.seq (its.set j u).toArray n }:=by simp[Obj.mapSeq]
def Inv.lst(I:Inv X pins σ H s)(h:H p=some (.lst xs)):
  ∃(its:List Value)(n:Nat),Vals xs its/\s.heap.get? p=some { cls:=.type "list",data:=.seq its.toArray n }/\xs.length<=sizeLine:=by
 obtain⟨z,its,n,r,e⟩:=I.hok p _ h;exact⟨its,n,r,e,z⟩
def Inv.lstUpd{ys:List V}{its':List Value}{n n':Nat}{f:Obj->Obj}(I:Inv X pins σ H s)(h:H p=some (.lst xs))(ho:s.heap.get? p=some { cls:=.type "list",data:=.seq its.toArray n })(hf:f { cls:=.type "list",data:=.seq its.toArray n }={ cls:=.type "list",data:=.seq its'.toArray n' })(r:Vals ys its')(hz:ys.length<=sizeLine)(t:Nat):
  Inv X pins σ (upd H p (.lst ys)) { s with heap:=s.heap.update p f,toks:=t }:=by
 have e:(s.heap.update p f).get? p=some { cls:=.type "list",data:=.seq its'.toArray n' }:=by rw[Heap.get?_update_self f ho (by rw[hf] <;> rfl),hf]
 refine I.write (x:=p) (e:=p) (by rw[h];trivial) (.inl rfl) (λb u hb q=>(Heap.get?_update_other _ _ (Ne.symm hb)).trans q) ⟨_,e⟩ ?_;exact⟨hz,its',n',r,e⟩
noncomputable def Ly:V->V->V->Hp->(Hp->Prop)->Prop:=λo i v H Q=>∃p xs k j,o=.ref p/\i=.int k/\H p=some (.lst xs)/\ixN xs.length k=some j/\Q (upd H p (.lst (xs.set j v)))
def Bk:KU X Ly:=by
 intro pins s σ H o i v ov iv u Q I ro ri rv h;obtain⟨p,xs,k,j,rfl,rfl,hp,hj,q⟩:=h;cases ro;obtain⟨t,rfl⟩:=ri;obtain⟨its,n,r,ho,hz⟩:=I.lst hp;obtain⟨h1,h2,h3,h4⟩:=yu hj;have hl:=r.length;have hn:=mX;have I':Inv X pins σ (upd H p (.lst (xs.set j v))) { s with heap:=s.heap.update p (Obj.mapSeq (·.setIfInBounds j u)) }:=
  I.lstUpd hp ho (xT its n j u) (r.set rv j) (by rw[List.length_set];exact hz) s.toks;by_cases h0:0<=k
 ·have hk:k.toNat=j:=by rw[seqIndex_of h0 h4]at h1;exact Option.some.inj h1
  exact W.ki_setAt ho h0 (by omega) (by rw[List.size_toArray,<- hl];exact h4) (by rw[hk];exact⟨_,I',q⟩)
 ·have hk:(k+(its.toArray.size:Int)).toNat=j:=by rw[seqIndex_neg (by omega) h3]at h1;rw[List.size_toArray,<- hl];exact Option.some.inj h1
  exact W.ki_setBack ho (by omega) (by rw[List.size_toArray,<- hl];exact h3) (by omega) (by rw[hk];exact⟨_,I',q⟩)
def sw(lo hi:Option Int)(n:Nat):(sliceBounds lo hi none n).1=((HT.sIx n 0 lo:Nat):Int)/\(sliceBounds lo hi none n).2.1=((HT.sIx n n hi:Nat):Int)/\(sliceBounds lo hi none n).2.2=1:=by
 refine⟨?_,?_,rfl⟩
 ·cases lo with
  |none=>simp[sliceBounds,HT.sIx]
  |some i=>
   simp only[sliceBounds,HT.sIx,Option.getD_none,show(1:Int) > 0 by decide,if_true];by_cases h:i<0;·simp only[h,if_true] <;> omega
   ·simp only[h,if_false] <;> omega
 ·cases hi with
  |none=>simp[sliceBounds,HT.sIx]
  |some i=>
   simp only[sliceBounds,HT.sIx,Option.getD_none,show(1:Int) > 0 by decide,if_true];by_cases h:i<0;·simp only[h,if_true] <;> omega
   ·simp only[h,if_false] <;> omega
def qq(its:List Value)(lo hi:Option Int):slicePick its.toArray lo hi none=((its.drop (HT.sIx its.length 0 lo)).take (HT.sIx its.length its.length hi - HT.sIx its.length 0 lo)).toArray:=by obtain⟨h1,h2,h3⟩:=sw lo hi its.toArray.size;unfold slicePick;rw[h1,h2,h3];simp only[sliceRange_one,pick_run,List.size_toArray] <;> rfl
noncomputable def Mj(K:W.Frag):V->Option Int->Option Int->Hp->VK->Prop:=λx lo hi H Q=>∃a xs,x=.ref a/\SqL K H a xs/\∀p,H p=none->Q (.ref p) (upd H p (.lst (Dp xs lo hi)))
def EV:SlR X (Mj X.K):=by intro pins s σ H x v vl vu lo hi sl Q I rx hs pl pu h;obtain⟨a,xs,rfl,hx,q⟩:=h;cases rx;obtain⟨its,r,ht,hz⟩:=I.list hx;have hlen:=r.length;refine⟨"list",_,slot_list_getitem.lookup,ht.isList.typeIs,?_⟩;refine wpAny_getItem_list_slice ht.isList hs pl pu .none (by simp) ?_ (by rw[List.size_toArray] <;> omega);rw[qq,<- hlen];refine⟨.ref s.heap.objs.size,_,I.laid (t':=s.toks) (o:=.lst (Dp xs lo hi)) (λb ob q=>Heap.get?_push_of_some _ q) (Nat.le_refl _) ?_,rfl,q _ (I.hok.fresh (Nat.le_refl _))⟩;exact⟨Nat.le_trans (lZ xs lo hi) hz,_,0,(r.drop (HT.sIx xs.length 0 lo)).take (HT.sIx xs.length xs.length hi - HT.sIx xs.length 0 lo),Heap.get?_push_size _ rfl⟩
def rf:kI X (.builtin "len") (λxs H Q=>∃p ys,xs=[.ref p]/\(SqL X.K H p ys\/SqT X.K H p ys)/\Q (.int ys.length) H):=by
 intro pins s σ H xs us Q I r h;obtain⟨p,ys,rfl,hq,q⟩:=h;obtain⟨u,rfl,rx⟩:=zr r;cases rx;have hn:=mX;rcases hq with hq|hq
 ·obtain⟨its,r',pl,hz⟩:=I.list hq;have hlen:=r'.length;exact Calls.call_len_list pl.isList (by simp only[List.size_toArray] <;> omega) ⟨.int ys.length,H,I.tok _,⟨s.toks+1,by rw[List.size_toArray,hlen]⟩,q⟩
 ·obtain⟨its,r',pl,hz⟩:=I.tuple hq;have hlen:=r'.length;exact len_tuple pl (by simp only[List.size_toArray] <;> omega) ⟨.int ys.length,H,I.tok _,⟨s.toks+1,by rw[List.size_toArray,hlen]⟩,q⟩
def tz:kI X (.type "list") (λxs H Q=>∃p ys,xs=[.ref p]/\(SqL X.K H p ys\/SqT X.K H p ys)/\∀l,H l=none->Q (.ref l) (upd H l (.lst ys))):=by
 intro pins s σ H xs us Q I r h;obtain⟨p,ys,rfl,hq,q⟩:=h;obtain⟨u,rfl,rx⟩:=zr r;cases rx;have fin:∀(its:List Value),Vals ys its->ys.length<=sizeLine->∀(h':Heap)(c':Nat),(∀b o',s.heap.get? b=some o'->h'.get? b=some o')->
   h'.get? s.heap.objs.size=some { cls:=.type "list",dict:=none,data:=.seq its.toArray c',slots:=#[] }->EP X pins σ Q (.ref s.heap.objs.size) { s with heap:=h' }:=λits r' hz h' c' kp e=>
  ⟨.ref s.heap.objs.size,_,I.laid (t':=s.toks) kp (Nat.le_refl _) (show ObjOk X.prog X.w _ h' _ (.lst ys) from⟨hz,its,c',r',e⟩),rfl,q _ (I.hok.fresh (Nat.le_refl _))⟩
 rcases hq with hq|hq;·obtain⟨its,r',pl,hz⟩:=I.list hq;have hlen:=r'.length;obtain⟨o,ho,hc,n,hd⟩:=pl.isList;exact call_list_seq p (.inl rfl) ho hc hd (λh' c' kp e=>fin its r' hz h' c' kp e) (by simp only[List.size_toArray] <;> omega)
 ·obtain⟨its,r',pl,hz⟩:=I.tuple hq;have hlen:=r'.length;obtain⟨o,ho,hc,n,hd⟩:=pl;exact call_list_seq p (.inr rfl) ho hc hd (λh' c' kp e=>fin its r' hz h' c' kp e) (by simp only[List.size_toArray] <;> omega)
def pc:kI X (.type "tuple") (λxs H Q=>∃p ys,xs=[.ref p]/\((SqL X.K H p ys/\∀l,H l=none->Q (.ref l) (upd H l (.tup ys)))\/(SqT X.K H p ys/\Q (.ref p) H))):=by
 intro pins s σ H xs us Q I r h;obtain⟨p,ys,rfl,h⟩:=h;obtain⟨u,rfl,rx⟩:=zr r;cases rx;rcases h with⟨hq,q⟩|⟨hq,q⟩
 ·obtain⟨its,r',pl,hz⟩:=I.list hq;have hlen:=r'.length;refine call_tuple_list pl.isList (λh' kp=>?_) (by simp only[List.size_toArray] <;> omega);have I1:Inv X pins σ H { s with heap:=h' }:=I.kept (t':=s.toks) kp;have I2:Inv X pins σ (upd H h'.objs.size (.tup ys)) { s with heap:=h'.push { cls:=.type "tuple",data:=.seq its.toArray } }:=
   I1.laid (t':=s.toks) (λb o e=>Heap.get?_push_of_some _ e) (Nat.le_refl _) (show ObjOk X.prog X.w _ _ _ (.tup ys) from⟨hz,its,r',IsTup.new _ _⟩);exact⟨.ref h'.objs.size,_,I2,rfl,q _ (I1.hok.fresh (Nat.le_refl _))⟩
 ·obtain⟨its,r',pl,hz⟩:=I.tuple hq;exact call_tuple_same pl ⟨.ref p,H,I,rfl,q⟩
noncomputable def tyV(K:W.Frag)(T:String)(x:V)(H:Hp):Prop:=match x with
 |.str _=>T="str"
 |.int _=>T="int"
 |.ref p=>(T="list"/\∃xs,SqL K H p xs)\/(T="tuple"/\∃o,K.lookup p=some o/\o.cls=.type "tuple"/\o.dict=none)\/
   (T="dict"/\((∃kvs,H p=some (.dK kvs))\/∃kvs,H p=some (.dT kvs)))\/(T="set"/\∃S n,H p=some (.set S n))
 |_=>False
def DN{T:String}{x:V}{v:Value}(I:Inv X pins σ H s)(r:RelV x v)(ty:tyV X.K T x H):
  s.TypeIs v T/\∀a,v=.ref a->∃ob,s.heap.get? a=some ob/\ob.dict=none:=by
 cases x with
 |str z=>obtain⟨t,rfl⟩:=r;cases (show T="str" from ty);exact⟨typeIs_str s z t,λ_ e=>nomatch e⟩
 |int i=>obtain⟨t,rfl⟩:=r;cases (show T="int" from ty);exact⟨typeIs_int s i t,λ_ e=>nomatch e⟩
 |ref p=>
  cases r;rcases ty with⟨rfl,xs,hq⟩|⟨rfl,o,hk,hc,hd⟩|⟨rfl,hk⟩|⟨rfl,S,n,hk⟩
  ·obtain⟨its,_,pl,_⟩:=I.list hq;refine⟨pl.isList.typeIs,λa e=>?_⟩;cases e;obtain⟨o,n,e,c,hd,_⟩:=pl;exact⟨o,e,hd⟩
  ·refine⟨⟨o,I.kIn p o hk,hc⟩,λa e=>?_⟩;cases e;exact⟨o,I.kIn _ o hk,hd⟩
  ·have z:∃o,s.heap.get? p=some o/\o.ExactDict:=by
    rcases hk with⟨kvs,hk⟩|⟨kvs,hk⟩;·obtain⟨_,_,_,_,o,_,_,e,ex,_⟩:=I.hok p _ hk;exact⟨o,e,ex⟩
    ·obtain⟨_,_,_,_,o,_,_,e,ex,_⟩:=I.hok p _ hk;exact⟨o,e,ex⟩
   obtain⟨o,e,ex⟩:=z;refine⟨⟨o,e,ex.1⟩,λa e2=>?_⟩;cases e2;exact⟨o,e,ex.2.1⟩
  ·obtain⟨o,_,_,_,e,ex,_⟩:=I.hok p _ hk;refine⟨⟨o,e,ex.1⟩,λa e2=>?_⟩;cases e2;exact⟨o,e,ex.2.1⟩
 |_=>exact False.elim ty
noncomputable def Nm(K:W.Frag)(T:String)(r:V->List V->Hp->VK->Prop)(to:TE):TE:=λσ H Q=>to σ H λx H1=>tyV K T x H1/\r x [] H1 Q
noncomputable def tBM(K:W.Frag)(T:String)(r:V->List V->Hp->VK->Prop)(to:TE)(t:TA):TE:=λσ H Q=>to σ H λx H1=>tyV K T x H1/\t σ H1 λxs H2=>r x xs H2 Q
variable{o e:Expr}{to:TE}{t:TA}{name:Str}{apos cpos:Pos}{T id:String}{r:V->List V->Hp->VK->Prop}
def Hy(pa:PlainAttrs T)(slot:Slot T name id)(hty:typeOf (.builtin id)=pure (.type "method_descriptor"))(hm:MtR X id r)(ho:PE X o to)(hbase:attributeBase o name X.env (eval o X.env)=eval o X.env:=by rfl)(hline:(apos.endLine==cpos.line)=true:=by rfl):PE X (.Call (.Attribute o name apos) [] [] cpos) (Nm X.K T r to):=by
 intro pins s σ H Q I h;refine wpAny_Call_method0_late hbase hline (thn (ho pins s σ H _ I h) λv s1 ⟨x,H1,I1,r1,ty,q1⟩=>?_);obtain⟨h1,h2⟩:=DN I1 r1 ty;exact⟨T,id,pa,slot,hty,h1,h2,Calls.callWith_builtin rfl (PySem.evalArgs_none (hm pins s1 σ H1 x [] v [] Q I1 r1 .nil q1))⟩
def Cg(pa:PlainAttrs T)(slot:Slot T name id)(hty:typeOf (.builtin id)=pure (.type "method_descriptor"))(hm:MtR X id r)(ho:PE X o to)(ha:PA X (e::es) t)(hbase:attributeBase o name X.env (eval o X.env)=eval o X.env:=by rfl)(hfew:((backTo cpos (starEach (e::es) X.env)).all (λx=>!x.1) && (backToKw cpos (keywordEach [] X.env)).all (λx=>x.1.isSome)
 && decide ((e::es).length+([]:List Keyword).length+(if ([]:List Keyword).isEmpty then 0 else 1)<30))=true:=by rfl)(hline:(apos.endLine==cpos.line)=true:=by rfl)(hs:starEach (e::es) X.env=(false,eval e X.env)::starEach es X.env:=by rfl)(hplain:(backTo cpos (starEach es X.env)).any (·.1)=false:=by rfl):
  PE X (.Call (.Attribute o name apos) (e::es) [] cpos) (tBM X.K T r to t):=by
 intro pins s σ H Q I h;refine wpAny_Call_method_late hbase hfew hline rfl (thn (ho pins s σ H _ I h) λv s1 ⟨x,H1,I1,r1,ty,q1⟩=>?_);obtain⟨h1,h2⟩:=DN I1 r1 ty;refine⟨T,id,pa,slot,hty,h1,h2,?_⟩;have hA:=ha cpos pins s1 σ H1 _ I1 q1;rw[hs]at hA⊢;refine Calls.callWith_builtin (by show(false || (backTo cpos (starEach es X.env)).any (·.1))=false;rw[hplain] <;> rfl) (Calls.evalArgs_plain ?_);exact thn hA λus s2 ⟨vs,H2,I2,r2,q2⟩=>hm pins s2 σ H2 x vs v us Q I2 r1 r2 q2
/- xs.append(e),list.index on a module's tuple .. are MtR facts of 06m -/
end
noncomputable def MtM(X:Cx)(id:String)(r:V->List V->Hp->VK->Prop):Prop:=
 ∀(pins:List (Addr×Obj))(s:Shared)(σ:St)(H:Hp)(x:V)(xs:List V)(v:Value)(us:List Value)(Q:VK),Inv X pins σ H s->RelV x v->Vals xs us->r x xs H Q->
  wpAny (model X.prog X.w) X.A (call (.builtin id) (v::us)) (EP X pins σ Q) X.xe s
def Vals.one:∀{x:V}{us:List Value},Vals [x] us->∃u,us=[u]/\RelV x u
 |_,_,.cons r .nil=>⟨_,rfl,r⟩
def Vals.two:∀{x y:V}{us:List Value},Vals [x,y] us->∃u v,us=[u,v]/\RelV x u/\RelV y v
 |_,_,_,.cons r (.cons q .nil)=>⟨_,_,rfl,r,q⟩
def Vals.zero:∀{us:List Value},Vals [] us->us=[]
 |_,.nil=>rfl
def Vals.dropLast(h:Vals xs us):Vals xs.dropLast us.dropLast:=by
 induction h with
 |nil=>exact .nil
 |cons r t ih=>
  cases t with
  |nil=>exact .nil
  |cons q t'=>exact .cons r ih
def Vals.rep(h:Vals xs us):∀k:Nat,Vals (List.replicate k xs).flatten (List.replicate k us).flatten
 | 0=>.nil
 |k+1=>by rw[List.replicate_succ,List.replicate_succ,List.flatten_cons,List.flatten_cons];exact Vals.append h (Vals.rep h k)
def wM{α:Type}(l:List α):l.eraseIdx (l.length - 1)=l.dropLast:=by
 induction l with
 |nil=>rfl
 |cons a r ih=>
  cases r with
  |nil=>rfl
  |cons b r=>
   have e:(a::b::r).length - 1=((b::r).length - 1)+1:=by have h1:(a::b::r).length=r.length+2:=rfl;have h2:(b::r).length=r.length+1:=rfl;omega
   rw[e,List.eraseIdx_cons_succ,ih]
   all_goals rfl
def jM(its:List Value):∀(k:Nat)(acc:List Value),
  List.foldl (λx1 x2=>x1++x2) acc.toArray (List.replicate k its.toArray)=(acc++(List.replicate k its).flatten).toArray
 | 0,acc=>by simp
 |k+1,acc=>by
  have e:acc.toArray++its.toArray=(acc++its).toArray:=by simp
  have e2:(acc++its)++(List.replicate k its).flatten=acc++(List.replicate (k+1) its).flatten:=by rw[List.replicate_succ,List.flatten_cons,List.append_assoc]
  rw[<- e2,<- jM its k (acc++its),<- e,List.replicate_succ,List.foldl_cons]
section
variable{l:Addr}{ys zs:List V}
def Inv.lset{its':List Value}{n:Nat}{f:Array Value->Array Value}{t':Nat}(I:Inv X pins σ H s)(hH:H l=some (.lst xs))(e:s.heap.get? l=some { cls:=.type "list",data:=.seq its.toArray n })(hf:f its.toArray=its'.toArray)(hv:Vals ys its')(hz:ys.length<=sizeLine):
  Inv X pins σ (upd H l (.lst ys)) { s with heap:=s.heap.update l (Obj.mapSeq f),toks:=t' }:=by
 have q:=PySem.IsL.update e f;rw[hf]at q;refine I.write (x:=l) (e:=l) (by rw[hH];exact trivial) (.inl rfl) (λb' u hb hu=>(Heap.get?_update_other s.heap (Obj.mapSeq f) (Ne.symm hb)).trans hu) ⟨_,q⟩ ?_;exact⟨hz,its',_,hv,q⟩
def Inv.lnew{t':Nat}(I:Inv X pins σ H s)(hv:Vals ys its)(hz:ys.length<=sizeLine):
  Inv X pins σ (upd H s.heap.objs.size (.lst ys)) { s with heap:=s.heap.push { cls:=.type "list",data:=.seq its.toArray },toks:=t' }:=
 I.laid (λ_ _ q=>Heap.get?_push_of_some _ q) (Nat.le_refl _) ⟨hz,its,0,hv,Heap.get?_push_size _ rfl⟩
def Inv.fresh(I:Inv X pins σ H s):H s.heap.objs.size=none:=I.hok.fresh (Nat.le_refl _)
def Inv.lstM(I:Inv X pins σ H s)(hH:H l=some (.lst xs)):xs.length<=sizeLine/\∃(its:List Value)(n:Nat),Vals xs its/\xs.length=its.length/\s.heap.get? l=some { cls:=.type "list",data:=.seq its.toArray n }:=by obtain⟨z,its,n,r,e⟩:=I.hok l _ hH;exact⟨z,its,n,r,r.length,e⟩
def wb{n:Nat}(h:n<=sizeLine):Builtin.List.listTooLong n=false:=by unfold Builtin.List.listTooLong;exact decide_eq_false (by omega)
end
section
noncomputable def Fy:V->List V->Hp->VK->Prop:=λx vs H Q=>∃l xs y,x=.ref l/\vs=[y]/\H l=some (.lst xs)/\xs.length<sizeLine/\Q .non (upd H l (.lst (xs++[y])))
def mC:MtM X "list.append" Fy:=by intro pins s σ H x vs v us Q I rx rv h;obtain⟨l,xs,y,rfl,rfl,hH,hz,q⟩:=h;cases rx;obtain⟨u,rfl,ru⟩:=rv.one;obtain⟨z,its,n,r,hl,e⟩:=I.lstM hH;refine call_meets F.slot_list_append ⟨_,e,rfl⟩ F.entry_list_append (F.args_list_append_2 _ _) (PySem.list_append l its.toArray n u (by rw[List.size_toArray];omega)) ⟨e,?_⟩;refine⟨.non,_,I.lset (its':=its++[u]) hH e (by simp) (r.append (.cons ru .nil)) ?_,rfl,q⟩;rw[List.length_append,List.length_singleton];omega
noncomputable def NF:V->List V->Hp->VK->Prop:=λx vs H Q=>∃l xs y,x=.ref l/\vs=[]/\H l=some (.lst xs)/\xs[xs.length - 1]?=some y/\Q y (upd H l (.lst xs.dropLast))
def HW:MtM X "list.pop" NF:=by
 intro pins s σ H x vs v us Q I rx rv h;obtain⟨l,xs,y,rfl,rfl,hH,hy,q⟩:=h;cases rx;have hus:=rv.zero;subst hus;obtain⟨z,its,n,r,hl,e⟩:=I.lstM hH;obtain⟨u,hu,ru⟩:=r.get hy;have hy':its.toArray[its.toArray.size - 1]?=some u:=by show its.toArray[its.length - 1]?=some u;rw[<- Array.getElem?_toList,<- hl];exact hu
 refine call_meets F.slot_list_pop ⟨_,e,rfl⟩ F.entry_list_pop (F.args_list_pop_1 _) (MeetsSeq.list_pop_last l its.toArray n u hy' (by rw[List.size_toArray];omega)) ⟨e,?_⟩;refine⟨y,_,I.lset (its':=its.dropLast) hH e ?_ r.dropLast ?_,ru,q⟩;·show its.toArray.eraseIdxIfInBounds (its.toArray.size - 1)=its.dropLast.toArray;rw[List.size_toArray,List.eraseIdxIfInBounds_toArray,wM]
 ·rw[List.length_dropLast];omega
noncomputable def Me:R2:=λx y H Q=>∃l b xs zs,x=.ref l/\y=.ref b/\H l=some (.lst xs)/\H b=some (.lst zs)/\xs.length+zs.length<=sizeLine/\∀p,H p=none->Q (.ref p) (upd H p (.lst (xs++zs)))
def op_cat:OpR X (binaryOp .Add) Me:=by
 intro pins s σ H x y v u Q I rx ry h;obtain⟨l,b,xs,zs,rfl,rfl,hH,hB,hz,q⟩:=h;cases rx;cases ry;obtain⟨z,its,n,r,hl,e⟩:=I.lstM hH;obtain⟨z2,its2,n2,r2,hl2,e2⟩:=I.lstM hB;refine PySem.P.add_list e e2 ?_ (by rw[List.size_toArray,List.size_toArray];omega);have ea:its.toArray++its2.toArray=(its++its2).toArray:=by simp
 rw[ea];exact⟨.ref _,_,I.lnew (t':=s.toks) (r.append r2) (by rw[List.length_append];omega),rfl,q _ I.fresh⟩
noncomputable def Mb:R2:=λx y H Q=>∃l k xs,x=.ref l/\y=.int k/\H l=some (.lst xs)/\-(2 ^ 63)<=k/\k<2 ^ 63/\xs.length * k.toNat<=sizeLine/\
 ∀p,H p=none->Q (.ref p) (upd H p (.lst (List.replicate k.toNat xs).flatten))
def pT{α:Type}(xs:List α)(k:Nat):(List.replicate k xs).flatten.length=k * xs.length:=by
 induction k with
 |zero=>simp
 |succ k ih=>rw[List.replicate_succ,List.flatten_cons,List.length_append,ih,Nat.succ_mul,Nat.add_comm]
def HH:OpR X (binaryOp .Mult) Mb:=by
 intro pins s σ H x y v u Q I rx ry h;obtain⟨l,k,xs,rfl,rfl,hH,h1,h2,hz,q⟩:=h;cases rx;obtain⟨t,rfl⟩:=ry;obtain⟨z,its,n,r,hl,e⟩:=I.lstM hH;have hlen:its.toArray.size * k.toNat<=sizeLine:=by rw[List.size_toArray,<- hl];exact hz
 have hcap : ¬ its.toArray.size * k.toNat > (2 ^ 63 - 1) / 8:=by
  have:(sizeLine:Nat)<=(2 ^ 63 - 1) / 8:=by decide
  omega
 have hfit : ¬ (!Builtin.List.listFitsIndex k)=true:=by rw[fitsIndex_both h1 h2];exact Bool.false_ne_true
 have hlong : ¬ Builtin.List.listTooLong (its.toArray.size * k.toNat)=true:=by rw[wb hlen];exact Bool.false_ne_true
 have hnew:List.foldl (λx1 x2=>x1++x2) #[] (List.replicate (if its.toArray.isEmpty=true then 0 else k.toNat) its.toArray)=(List.replicate k.toNat its).flatten.toArray:=by
  have f0:∀m:Nat,List.foldl (λx1 x2=>x1++x2) #[] (List.replicate m its.toArray)=(List.replicate m its).flatten.toArray:=λm=>by have:=jM its m [];rw[List.nil_append]at this;exact this
  rw[f0];cases its with
  |nil=>simp
  |cons a r'=>rw[if_neg (by simp)]
 refine wpAny_binaryOp_repeat_ref (T:="list") (U:="int") (by decide) ⟨_,e,rfl⟩ (λs'=>typeIs_int s' k t) noFill_list_mul F.fills_int_mul F.slot_int_rmul repeat_list F.slot_int_index.lookup
  (call_meets F.slot_int_rmul (typeIs_int s k t) F.entry_int_rmul (F.args_int_rmul_2 _ _) (int___rmul___int_list k t l its.toArray n)
   ⟨e,rfl,⟨_,e,rfl⟩,call_meets F.slot_list_mul ⟨_,e,rfl⟩ F.entry_list_mul (F.args_list_mul_2 _ _) (AutoListH.list___mul___list_int_3 l its.toArray n k t hfit hcap hlong) ⟨e,?_⟩⟩);rw[hnew];exact⟨.ref _,_,I.lnew (t':=s.toks) (r.rep k.toNat) (by rw[pT,Nat.mul_comm];exact hz),rfl,q _ I.fresh⟩
end
end L2
namespace Att
open PySem PySem.W PySem.Calls PyProof.Rows
def ma{P:Params}:∀(ns:List Int)(vs:List Value),WellAll P h vs (ns.map WData.int)->IntsAre vs ns:=by
 intro ns;induction ns with
 |nil=>intro vs w;rw[List.map_nil]at w;cases w;exact .nil
 |cons n ns ih=>
  intro vs w;rw[List.map_cons]at w;cases w with
  |cons a b=>cases a;exact .cons _ _ (ih _ b)
def Am{l:OpenLaw}{n:Nat}(hn:l.most=some n){P:Params}{args:List WData}{vals:List Value}(hpre:l.row.toRowW.claim.pre args=true)(hwl:WellAll P h vals args):
  ∃a vs ns,vals=[Value.ref a]/\args=[WData.list (ns.map WData.int)]/\h.get? a=some { cls:=.type "list",data:=.seq vs.toArray }/\IntsAre vs ns/\ns.length<=n:=by
 have hsh:WShape.hasAll [] args [.list .int]=true:=(pre_splitW hpre).1;have hc:l.pre.holds [] { args:=args }=true:=(pre_splitW hpre).2;obtain⟨d,r,rfl,h1,h2⟩:=hasAllW_cons hsh;obtain rfl:=hasAllW_nil h2;obtain⟨xs,rfl,h3⟩:=hasW_list h1;obtain⟨ns,rfl⟩:=items_int h3;have hlen:ns.length<=n:=by
  unfold OpenLaw.pre at hc;have h4:(WTm.not (.lt (.lit (.int (n:Int))) (.len (.arg 0)))).holds [] { args:=[.list (ns.map .int)] }=true:=by have h4:=(holds_andW hc).1;rw[hn]at h4;exact h4
  have h5:=condW_of h4 (w_not (w_lt w_lit (w_len_list (w_arg rfl))));rw[List.length_map]at h5;refine Nat.le_of_not_lt λq=>?_;have q':(n:Int)<((ns.length:Nat):Int):=by omega
  first
   | (rw[decide_eq_true q']at h5;exact absurd h5 (by decide))
   | (simp at h5;omega)
 cases hwl with
 |cons w1 w2=>
  cases w2;cases w1 with
  |list ho hall=>exact⟨_,_,ns,rfl,rfl,ho,ma ns _ hall,hlen⟩
def yw(l:OpenLaw)(args:List WData):l.row.toRowW.claim.post args (.bool true) args=true:=
 postW_of (r:=l.row.toRowW) (X:=(true==true))
  (show WShape.has [] (.bool true) .bool=true by first|rfl|decide|simp[WShape.has,WShape.arms,WShape.armsAll])
  (show(WTm.eq .res (.lit (.bool true))).value [] { args:=args,res:=some (.bool true),after:=args }=some (.bool (true==true)) from w_eq_bool (w_res rfl) w_lit) rfl
def attach_call{l:OpenLaw}{n:Nat}{q:Program}{XP:(Str->Option Value)->Heap->Prop}{YP:World->Heap->Prop}{d:DefRec}(hn:l.most=some n)(hdf:d.params.defaults=[])(call:∀(w:World)(s₀ s₁:Shared)(mg mb:Str->Option Value)(fa:Addr)(o:Obj)(pm cd doc:Value)(a:Addr)(vs:List Value)(ns:List Int),
 Ground q loose [] XP w s₀ mg mb s₁.heap->YP w s₁.heap->
 s₁.heap.get? fa=some o->o.data=.func (docDef d.name d.params d.body d.scope pm cd doc)->s₁.heap.CodeRec cd d.name->mg d.name=some (.ref fa)->
 s₁.heap.get? a=some { cls:=.type "list",data:=.seq vs.toArray }->IntsAre vs ns->ns.length<=n->s₁.gens = #[]->
 codeAny (model l.prog w) callerA (.call (.ref fa) ⟨[.ref a],[]⟩) (λr s'=>r=.ok (.ret (.bool true))/\OldK s₁.heap s'.heap/\s'.os=s₁.os/\AllBare s'.gens) s₁):
  WalkO q loose XP YP l.row.toRowW d [] (λf vs=>PySem.call f vs):=by
 intro w s₀ s₁ mg mb G Y fa o pm cd doc dV kV ho hd hcd hD hmg hg args vals as hpre hlay hrd hwl hlo;obtain rfl:dV=.none:=Dflts.none hD hdf;obtain rfl:kV=.none:=Dflts.noKw hD;obtain⟨a,vs,ns,rfl,rfl,hobj,hints,hlen⟩:=Am hn hpre hwl;refine enter_call (codeAny_mono (call w s₀ s₁ mg mb fa o pm cd doc a vs ns G Y ho (fd_plain hd) hcd hmg hobj hints hlen hg) λr s' hq=>?_);obtain⟨rfl,h2,h3,h4⟩:=hq;exact⟨.inl ⟨.bool true,.bool true,[],rfl,λ_=>rfl,.bool true,yw l _,λ_=>⟨List.Pairwise.nil,λ_ hm=>(nomatch hm)⟩⟩,h2,h3,h4⟩
section
variable{prog:Program}{w:World}{A:Around}{K:Frag}
noncomputable def Mn(h:Heap)(L d:Addr):List (Addr×Obj):=(List.range h.objs.size).filterMap λa=>if a=L\/a=d then none else (h.get? a).map λo=>(a,o)
end
end Att
namespace L2
open PySem PySem.Spec PyProof.Rows
def rD:∀{vs:List Value}{ns:List Int},IntsAre vs ns->Vals (ns.map V.int) vs
 |_,_,.nil=>.nil
 |_,_,.cons n t h=>.cons ⟨t,rfl⟩ (rD h)
noncomputable abbrev KOf{K:W.Frag}{h:Heap}(_:K.In h):W.Frag:=K
end L2
/- THE LAST THEOREM (shape;LID,My.* are yours):
  My.Adr: a structure of the addresses that your layer names (classes,functions);My.Txt K t: a structure (Prop) of the equations over K;
  My.txt_mk:{K} {implicit addresses ..} (e1:nsIn K mainGlobals "law"=some (some (.ref f))) (e2:K.lookup f=some ⟨oc,od,.func (fnOf "law" "law" params body scope dV kV doc pm an cdv ct),sl⟩) (e3:codeIn K cdv "law"=true) .. : ∃ t,My.Txt K t
set_option maxRecDepth 100000 in
set_option maxHeartbeats 0 in
def PySem.Challenge.cw_LID_holds : PySem.Challenge.rw_LID.Holds := by
 w_on;o_law;k_head;(case hw=>w_witness2)
 k_fill
 refine L2.walk_of (l:=PySem.Challenge.rw_LID) (n:=63) (k:=40) (x:="script") (CX:=λw=>..) (sp:=λ_=>My.sp_law) rfl (by decide) rfl ⟨rfl,by decide,by decide⟩ (λw h Y=>PySem.W.kIn_of Y) ?F ?S ?C
 case F=>
  intro w mg fa h KX G hmg;have T:∃t,My.Txt (L2.KOf KX) t:=by
   dsimp only[L2.KOf]
   refine' My.txt_mk ?e1 ?e2 ?e3 ..
   (case e1=>PySem.W.k_is)
   (case e2=>PySem.W.k_is)
   ..
  obtain⟨t,T⟩:=T;have e0:=hmg.symm.trans (PySem.W.mg_of KX G T.law);cases e0;exact⟨_,λs u=>.of_eq rfl,λbase kb nb=>My.law_fn T kb nb⟩
 case S=>exact λw H a ns hl hO hS=>..
 case C=>exact ..
(the tactic k_is has no namespace: write k_is) -/
namespace L2
open PySem PySem.Spec PyProof.Rows
noncomputable def bp(s:Stmt)(j:Nat):Stmt:=match s with
 |.ClassDef _ _ _ body _ _ _ _ _ _ _=>body.getD j (.Pass ⟨0,0,0,0⟩)
 |_=>.Pass ⟨0,0,0,0⟩
noncomputable def eE(s:Stmt):Arguments:=match s with
 |.FunctionDef _ a _ _ _ _ _ _ _ _=>a
 |_=>{ posonlyargs:=[],args:=[],vararg:=none,kwonlyargs:=[],kw_defaults:=[],kwarg:=none,defaults:=[] }
noncomputable def bb(s:Stmt):List Stmt:=match s with
 |.FunctionDef _ _ b _ _ _ _ _ _ _=>b
 |_=>[]
noncomputable def aq(s:Stmt):Scope:=match s with
 |.FunctionDef _ _ _ _ _ _ sc _ _ _=>sc
 |_=>{ kind:=.function,names:=[],isGenerator:=false,isCoroutine:=false }
structure Fun(K:PySem.W.Frag)(x qual:Str)(st:Stmt)(f:Addr)(fd:FuncData):Prop where
 ex:∃(oc:Value)(od:Option Addr)(kV doc pm:Value)(an:Option Addr)(cdv ct:Value)(osl:Array (Option Value)),
  fd=PySem.W.fnOf x qual (eE st) (bb st) (aq st) .none kV doc pm an cdv ct/\K.lookup f=some ⟨oc,od,.func fd,osl⟩/\PySem.W.codeIn K cdv qual=true
 kp:PySem.W.keepIn K (.ref f)=true
section
variable{w:World}{K:PySem.W.Frag}{mg:Str->Option Value}{base:Heap}
def Fun.binds(F:Fun K x qual st f fd)(h:∀(kV doc pm:Value)(an:Option Addr)(cdv ct:Value)(us:List Value),us.length=ps.length->bindArgs (PySem.W.fnOf x qual (eE st) (bb st) (aq st) .none kV doc pm an cdv ct) ⟨us,[]⟩=pure (ps.zip us)):Binds K fd ps []:=by
 obtain⟨oc,od,kV,doc,pm,an,cdv,ct,osl,rfl,lk,hcd⟩:=F.ex;exact .all (h kV doc pm an cdv ct)
def wr{kV pm ct:Value}(l:K.lookup f=some ⟨oc,od,.func (PySem.W.fnOf x qual (eE st) (bb st) (aq st) .none kV doc pm an cdv ct),osl⟩)(c:PySem.W.codeIn K cdv qual=true)(k:PySem.W.keepIn K (.ref f)=true):Fun K x qual st f (PySem.W.fnOf x qual (eE st) (bb st) (aq st) .none kV doc pm an cdv ct):=⟨⟨oc,od,kV,doc,pm,an,cdv,ct,osl,rfl,l,c⟩,k⟩
end
noncomputable def Same(H H':Hp):Prop:=∀b o,H b=some o->H' b=some o
def Same.refl(H:Hp):Same H H:=λ_ _ h=>h
def Same.trans{H1 H2:Hp}(a:Same H H1)(b:Same H1 H2):Same H H2:=λc o h=>b c o (a c o h)
def Same.free(e:Same H H'){l:Addr}(h:H' l=Option.none):H l=Option.none:=by
 cases q:H l with
 |none=>rfl
 |some o=>rw[e l o q]at h;cases h
def Same.seq{K:PySem.W.Frag}(e:Same H H')(h:SqL K H a xs):SqL K H' a xs:=by
 rcases h with (h|⟨o,h⟩)|h;·exact .inl (.inl (e _ _ h))
 ·exact .inl (.inr ⟨o,e _ _ h⟩)
 ·exact .inr h
end L2
namespace L2
open PySem PySem.Spec PyProof.Rows
open PySem.MeetsSeq PySem.MeetsSeq2 PySem.MeetsSeq3
section
variable{prog:Program}{w:World}{A:Around}
def E7{b:Bool}{Q:Int->Shared->Prop}(h:Q (if b then 1 else 0) { s with toks:=s.toks+1 }):wpAny (model prog w) A (pyHash (.bool b)) Q E s:=by
 have t:s.TypeIs (.bool b) "bool":=rfl;show wpAny _ _ (pyHashByItsType (.bool b)) Q E s;have c:cRoomFor "hash" [.bool b]=pure ():=rfl;unfold pyHashByItsType;rw[c];refine wpAny_bind (wpAny_pure ?_);refine wpAny_bind (wpAny_specialOf t F.slot_bool_hash.lookup ?_);simp only[beq_builtin_none,Bool.false_eq_true,if_false];refine wpAny_bind (wpAny_specialOf t F.slot_bool_hash.lookup ?_);simp only[Option.isNone_some,Bool.false_eq_true,if_false];refine wpAny_bind (wpAny_callSpecialIfBoundUnlessNone?_slot t F.slot_bool_hash (wpAny_call_entry F.slot_bool_hash t F.entry_int_hash ?_ (F.args_int_hash_1 _)));unfold Builtin.«int.__hash__»;cases b
 ·wp_walk
  exact⟨.int 0 _,rfl,wpAny_pure h⟩
 ·wp_walk
  exact⟨.int 1 _,rfl,wpAny_pure h⟩
noncomputable def sK(prog:Program)(w:World):PySem.KeyKind prog w Bool where
 is:=λk v=>match v with
  |.bool b=>b==k
  |_=>false
 hash:=λk=>if k then 1 else 0
 inj:=λv a b ha hb=>by cases v <;> simp_all
 byValue:=λk v h=>by cases v <;> simp_all[carriedByValue]
 pyHash:=λ{A E s k v Q} hv h=>by cases v <;> simp_all;exact E7 h
 eqBool:=λ{A E s a b u v Q} hu hv h=>by
  cases u <;> simp_all;cases v <;> simp_all;have e:decide (a=b)=(a==b):=by cases a <;> cases b <;> rfl
  rw[e]at h;exact PySem.SeqAt.EqAt.bool_bool a b prog w E Q h
 «strs»:=λk x t v h=>by simp at h
end
noncomputable abbrev DX:=List (List Bool×Addr×V)
noncomputable abbrev DU:=List (List Bool×Addr×Value)
noncomputable def sg(bs:List Bool):Int:=reduceHash (Builtin.Tuple.tupleHashOf (bs.map λk=>if k then 1 else 0))
noncomputable abbrev DRel:DX->DU->Prop:=Paired λp q=>p.1=q.1/\p.2.1=q.2.1/\RelV p.2.2 q.2.2
noncomputable def EF(a:Addr)(o:Obj)(xs:DX):Heap->Prop:=λh=>h.get? a=some o/\xs.length<=sizeLine/\(a==sysModules)=false/\o.ExactDict/\∃us:DU,DRel xs us/\
 ∃es ep,o.data=.dict es ep/\es.toList=us.map (λx=>⟨sg x.1,.ref x.2.1,x.2.2⟩)/\(us.map (·.1)).Nodup
noncomputable def DctO(a:Addr)(o:Obj)(xs:DX):HO:=.ext (EF a o xs)
def DctO.ok{w:World}{xs:DX}(d:EF a o xs h):ObjOk P w H h a (DctO a o xs):=
 ⟨d,⟨o,d.1⟩,λ_ _ p st=>⟨st o p.1,p.2⟩⟩
noncomputable def iB(K:PySem.W.Frag)(H:Hp)(xs:DX):Prop:=∀x∈xs,SqT K H x.2.1 (x.1.map V.bl)
noncomputable def nT(xs:DX)(k:List Bool):Option V:=(xs.find? λx=>decide (x.1=k)).map (·.2.2)
def wA{P:Program}{w:World}:∀{bs:List Bool}{us:List Value},Vals (bs.map V.bl) us->ItemsAre (sK P w) bs us
 | [],_,r=>by rw[List.map_nil]at r;cases r;exact .nil
 |b::bs,_,r=>by
  rw[List.map_cons]at r;cases r with
  |cons h t=>
   obtain rfl:=(show _=Value.bool b from h)
   exact .cons (by simp[sK]) (wA t)
def DRel.find{k:List Bool}:∀{xs:DX}{us:DU},DRel xs us->RelO (nT xs k) ((atKey us k).map (·.2))
 |_,_,.nil=>trivial
 |x::xs,u::us,.cons ⟨h1,h2,h3⟩ t=>by
  have ih:=DRel.find (k:=k) t;unfold nT atKey at ih⊢;by_cases e:x.1=k;·have e':u.1=k:=h1▸e;simp only[List.find?_cons,e,e',decide_true,Option.map_some];exact h3
  ·have e' : ¬ u.1=k:=λz=>e (h1.trans z);simp only[List.find?_cons,e,e',decide_false];exact ih
def DRel.isSome{k:List Bool}{xs:DX}{us:DU}(r:DRel xs us):(nT xs k).isSome=(atKey us k).isSome:=by have h:=r.find (k:=k);revert h;cases nT xs k <;> cases atKey us k <;> intro h <;> first|rfl|exact h.elim
section
variable{xs:DX}{k:List Bool}{A:Around}
def oC(I:Inv X pins σ H s)(h:SqT X.K H q (k.map V.bl)):(tupleKind (sK X.prog X.w)).is s.heap k q:=by obtain⟨its,rv,⟨o,h1,h2,n,h3⟩,_⟩:=I.tuple h;exact⟨o,its.toArray,n,h1,h2,h3,by simpa using wA rv⟩
def oF(I:Inv X pins σ H s)(e:H a=some (DctO a o xs))(kk:iB X.K H xs):xs.length<=sizeLine/\(a==sysModules)=false/\∃us:DU,DRel xs us/\s.heap.DictOfH (tupleKind (sK X.prog X.w)) a us:=by
 obtain⟨⟨h1,z1,z2,h2,us,r,es,ep,h3,h4,h5⟩,_⟩:=(show ObjOk X.prog X.w H s.heap a (DctO a o xs) from I.hok a _ e)
 refine⟨z1,z2,us,r,o,es,ep,h1,h2,h3,h4,λu hu=>?_,h5⟩;have all:∀{l:DX}{m:DU},DRel l m->(∀x∈l,SqT X.K H x.2.1 (x.1.map V.bl))->∀u∈m,(tupleKind (sK X.prog X.w)).is s.heap u.1 u.2.1:=by
  intro l m q;induction q with
  |nil=>intro _ u hu;exact nomatch hu
  | @cons x y ps qs hq t ih=>
   intro hl u hu;rcases List.mem_cons.mp hu with z|hu
   ·subst z;have:=oC I (hl x (List.mem_cons_self ..));rw[hq.1,hq.2.1]at this;exact this
   ·exact ih (λx hx=>hl x (List.mem_cons_of_mem _ hx)) u hu
 exact all r kk u hu
def FD{Q:Value->Shared->Prop}(hu:A.units+1<cLine)(I:Inv X pins σ H s)(e:H a=some (DctO a o xs))(kk:iB X.K H xs)(hk:SqT X.K H q (k.map V.bl))(hv:nT xs k=some v)(h:∀w' s',Inv X pins σ H s'->RelV v w'->Q w' s'):
  wpAny (model X.prog X.w) A (getItem (.ref a) (.ref q)) Q E s:=by
 obtain⟨z,hd,us,rel,dd⟩:=oF I e kk;obtain⟨w',hw,rw'⟩:=RelO.some_of (v:=v) (o:=(atKey us k).map (·.2)) (by rw[<- hv];exact rel.find);obtain⟨p,hp,hp2⟩:=Option.map_eq_some_iff.mp hw;refine wpAny_getItem_heap (tupleKind_room_in1 hu) (oC I hk) dd hp ?_;rw[hp2];exact h w' _ (I.tok _) rw'
def Ju{Q:Value->Shared->Prop}(hu:A.units+1<cLine)(I:Inv X pins σ H s)(e:H a=some (DctO a o xs))(kk:iB X.K H xs)(hk:SqT X.K H q (k.map V.bl))(h:∀s',Inv X pins σ H s'->Q (.bool (nT xs k).isSome) s'):
  wpAny (model X.prog X.w) A (compareOp .In (.ref q) (.ref a)) Q E s:=by
 obtain⟨z,hd,us,rel,dd⟩:=oF I e kk;refine wpAny_in_heap (tupleKind_room_in1 hu) (oC I hk) hd dd ?_;rw[<- rel.isSome];exact h _ (I.tok _)
def zc{Q:Value->Shared->Prop}(hu:A.units+1<cLine)(I:Inv X pins σ H s)(e:H a=some (DctO a o xs))(kk:iB X.K H xs)(hk:SqT X.K H q (k.map V.bl))(h:∀s',Inv X pins σ H s'->Q (.bool (!(nT xs k).isSome)) s'):
  wpAny (model X.prog X.w) A (compareOp .NotIn (.ref q) (.ref a)) Q E s:=by
 obtain⟨z,hd,us,rel,dd⟩:=oF I e kk;refine wpAny_notIn_heap (tupleKind_room_in1 hu) (oC I hk) hd dd ?_;rw[<- rel.isSome];exact h _ (I.tok _)
noncomputable def Bj(xs:DX)(k:List Bool)(q:Addr)(v:V):DX:=if (nT xs k).isSome then xs.map (λx=>if x.1=k then (x.1,x.2.1,v)else x)else xs++[(k,q,v)]
def DRel.snoc:∀{xs:DX}{us:DU}{x:List Bool×Addr×V}{u:List Bool×Addr×Value},DRel xs us->(x.1=u.1/\x.2.1=u.2.1/\RelV x.2.2 u.2.2)->DRel (xs++[x]) (us++[u])
 |_,_,_,_,.nil,h=>.cons h .nil
 |_,_,_,_,.cons a t,h=>.cons a (DRel.snoc t h)
def DRel.put{xs:DX}{us:DU}(r:DRel xs us)(q:Addr)(rv:RelV v u):DRel (Bj xs k q v) (storedH us k q u):=by
 have e:(nT xs k).isSome=(atKey us k).isSome:=r.isSome;unfold Bj storedH;rw[e];by_cases z:(atKey us k).isSome=true
 ·rw[if_pos z,if_pos z];clear e z;induction r with
  |nil=>exact .nil
  | @cons x y ps qs h t ih=>
   obtain⟨h1,h2,h3⟩:=h;rw[List.map_cons,List.map_cons];refine .cons ?_ ih;unfold putAt;by_cases z:x.1=k;·rw[if_pos z,if_pos (h1▸z)];exact⟨h1,h2,rv⟩
   ·rw[if_neg z,if_neg (λy=>z (h1.trans y))];exact⟨h1,h2,h3⟩
 ·rw[if_neg z,if_neg z];exact DRel.snoc r ⟨rfl,rfl,rv⟩
def Ci(xs:DX)(k:List Bool)(q:Addr)(v:V):(Bj xs k q v).length<=xs.length+1:=by unfold Bj;split <;> simp
def Fr{Q:Unit->Shared->Prop}(hu:A.units+1<cLine)(I:Inv X pins σ H s)(e:H a=some (DctO a o xs))(kk:iB X.K H xs)(hk:SqT X.K H q (k.map V.bl))(hl:xs.length<sizeLine)(rv:RelV v u)(h:∀o' s',Inv X pins σ (upd H a (DctO a o' (Bj xs k q v))) s'->Q () s'):
  wpAny (model X.prog X.w) A (setItem (.ref a) (.ref q) u) Q E s:=by
 obtain⟨z,hd,us,rel,dd⟩:=oF I e kk;have hz:us.length<=sizeLine:=by rw[<- Paired.length rel];exact z
 refine wpAny_setItem_heap (hsz:=hz) (tupleKind_room_in1 hu) (oC I hk) dd λh' dd' hs=>?_;obtain⟨o',es,ep,h1,h2,h3,h4,_,h5⟩:=dd';refine h o' _ (I.write (x:=a) (e:=a) (by rw[e];trivial) (.inl rfl) (λb y hb z=>(hs.2 b hb).trans z) ⟨o',h1⟩ (DctO.ok ⟨h1,?_,hd,h2,_,rel.put q rv,es,ep,h3,h4,h5⟩));have:=Ci xs k q v;omega
end
end L2
namespace L2
open PySem PySem.Spec PyProof.Rows
def Inv.big0(I:Inv X pins σ H s):(s.heap.objs.size==sysModules)=false:=by have h:mainGlobals<s.heap.objs.size:=(I.mod.glob.keeps I.bk).lt;exact beq_eq_false_iff_ne.mpr λe=>by rw[e]at h;exact absurd h (by decide)
section
noncomputable def LG:TE:=λ_ H Q=>∀p o,H p=none->Q (.ref p) (upd H p (DctO p o []))
def E4:PE X (.Dict [] [] pos) LG:=λpins s σ H Q I h=>wpAny_Dict_empty ⟨.ref s.heap.objs.size,_,I.laid (t':=s.toks) (λ_ _ q=>Heap.get?_push_of_some _ q) (Nat.le_refl _) (DctO.ok ⟨Heap.get?_push_size _ rfl,Nat.zero_le _,I.big0,⟨rfl,rfl,rfl⟩,[],.nil,#[],0,rfl,rfl,List.nodup_nil⟩),rfl,h _ _ (I.hok.fresh (Nat.le_refl _))⟩
noncomputable def J8(tk tv:TE)(K:PySem.W.Frag):TE:=λσ H Q=>∀p o,H p=none->tk σ (upd H p (DctO p o [])) λx H1=>tv σ H1 λy H2=>H2 p=some (DctO p o [])/\∃q bs,x=.ref q/\SqT K H2 q (bs.map V.bl)/\∀o',Q (.ref p) (upd H2 p (DctO p o' [(bs,q,y)]))
def FA{k v:Expr}{tk tv:TE}(hu:X.A.units+1<cLine)(hk:PE X k tk)(hv:PE X v tv):PE X (.Dict [some k] [v] pos) (J8 tk tv X.K):=λpins s σ H Q I h=>by have hn:=I.hok.fresh (Nat.le_refl s.heap.objs.size);have I1:Inv X pins σ (upd H s.heap.objs.size (DctO s.heap.objs.size { cls:=.type "dict",data:=.dict #[] } [])) { s with heap:=s.heap.push { cls:=.type "dict",data:=.dict #[] } }:=I.laid (t':=s.toks) (λ_ _ q=>Heap.get?_push_of_some _ q) (Nat.le_refl _) (DctO.ok ⟨Heap.get?_push_size _ rfl,Nat.zero_le _,I.big0,⟨rfl,rfl,rfl⟩,[],.nil,#[],0,rfl,rfl,List.nodup_nil⟩);refine wpAny_Dict_any rfl rfl (by simp) (by show 1<=15;decide) (pairTrees_cons_walk (thn (hk pins _ σ _ _ I1 (h _ _ hn)) λu s1 ⟨x,H1,I2,rx,q1⟩=>thn (hv pins s1 σ H1 _ I2 q1) λw s2 ⟨y,H2,I3,ry,hp,q,bs,ex,hq,q2⟩=>pairTrees_nil_walk ?_));subst ex;cases rx;obtain⟨z,hd,us,rel,dd⟩:=oF I3 hp (λ_ hx=>nomatch hx);cases rel;unfold storeAll;rw[List.forIn_cons];refine wpAny_bind (wpAny_bind (wpAny_dictSet_heap (hsz:=Nat.zero_le _) (show X.A.units<cLine by omega) (oC I3 hq) dd λh' dd' hs=>?_));refine wpAny_pure ?_;show wpAny _ _ (forIn [] PUnit.unit _) _ _ _;rw[List.forIn_nil];obtain⟨o,es,ep,h1,h2,h3,h4,_,h5⟩:=dd';refine wpAny_pure ⟨.ref _,_,?_,rfl,q2 o⟩;exact I3.write (x:=s.heap.objs.size) (e:=s.heap.objs.size) (by rw[hp];trivial) (.inl rfl) (λb y hb z=>(hs.2 b hb).trans z) ⟨o,h1⟩ (DctO.ok ⟨h1,by show 1<=sizeLine;decide,hd,h2,_,.cons ⟨rfl,rfl,ry⟩ .nil,es,ep,h3,h4,h5⟩)
end
def CK:∀a b c d:Bool,sg [a,b]=sg [c,d]->[a,b]=[c,d]:=by decide +kernel
def DQ{α:Type}{f:α->Int}{c:Int}:∀{l:List α},(l.map f).Nodup->(l.filter λx=>f x==c).length<=1
 | [],_=>by simp
 |a::l,h=>by
  rw[List.map_cons,List.nodup_cons]at h;by_cases e:f a=c;·have z:(l.filter λx=>f x==c)=[]:=List.filter_eq_nil_iff.2 λx hx q=>h.1 (List.mem_map.2 ⟨x,hx,by rw[e];exact eq_of_beq q⟩);rw[List.filter_cons_of_pos (by simp[e]),z];simp
  ·rw[List.filter_cons_of_neg (by simp[e])];exact DQ h.2
noncomputable def Kr(xs:DX):Prop:=∀x∈xs,∃a b,x.1=[a,b]
def sW:∀{us:DU},(∀u∈us,∃a b,u.1=[a,b])->(us.map (·.1)).Nodup->(us.map λu=>sg u.1).Nodup
 | [],_,_=>List.nodup_nil
 |u::us,h2,hn=>by rw[List.map_cons,List.nodup_cons]at hn⊢;refine⟨λhm=>hn.1 ?_,sW (λx hx=>h2 x (List.mem_cons_of_mem _ hx)) hn.2⟩;obtain⟨y,hy,e⟩:=List.mem_map.1 hm;obtain⟨a,b,e1⟩:=h2 u (List.mem_cons_self ..);obtain⟨c,d,e2⟩:=h2 y (List.mem_cons_of_mem _ hy);rw[e1,e2]at e;exact List.mem_map.2 ⟨y,hy,by rw[e1,e2];exact CK _ _ _ _ e⟩
def DRel.twos:∀{xs:DX}{us:DU},DRel xs us->Kr xs->∀u∈us,∃a b,u.1=[a,b]
 |_,_,.nil,_,u,hu=>nomatch hu
 |x::xs,y::us,.cons h t,h2,u,hu=>by
  rcases List.mem_cons.1 hu with rfl|hu;·obtain⟨a,b,e⟩:=h2 x (List.mem_cons_self ..);exact⟨a,b,h.1▸e⟩
  ·exact DRel.twos t (λz hz=>h2 z (List.mem_cons_of_mem _ hz)) u hu
section
variable{prog:Program}{w:World}{A:Around}
def wN{d o:Addr}{od oo:Obj}{es:Array DictEntry}{e0 ep:Nat}{id:String}{Q:Unit->Shared->Prop}(hne:(d==o)=false)(hos:(o==sysModules)=false)(hd:s.heap.get? d=some od)(hdd:od.data=.dict #[] e0)(ho:s.heap.get? o=some oo)(hdo:oo.data=.dict es ep)(hz:es.size<=sizeLine)(h0:0<es.size)(hr:∀e∈es.toList,∃q,e.key=.ref q/\s.TypeIs (.ref q) "tuple")(hf:∀e∈es.toList,(es.filter (·.hash==e.hash)).size<=1)(h:Q () { s with heap:=s.heap.update d (Obj.mapDictKeys λ_=>es) }):wpAny (model prog w) A (Builtin.Dict.mergeDict id d o) Q E s:=by
 have few:(decide (es.size<=8) && es.all λe=>(keyPart e.key).isSome)=false:=by
  have hx:es[0]∈es.toList:=by simp
  obtain⟨q,e,_⟩:=hr _ hx;have:(es.all λe=>(keyPart e.key).isSome)=false:=by rw[Array.all_eq_false];exact⟨0,h0,by rw[e];exact Bool.false_ne_true⟩
  rw[this,Bool.and_false]
 unfold Builtin.Dict.mergeDict Builtin.Dict.showsAll;rw[hne,hos];simp only[Bool.false_eq_true,if_false];refine wpAny_bind (wpAny_pure (wpAny_bind (wpAny_dictEntries ho hdo ?_)));rw[few];simp only[Bool.not_false,if_true];refine wpAny_bind (wpAny_dictEntries hd hdd ?_);rw[if_pos (show(#[]:Array DictEntry).isEmpty=true from rfl)];unfold Builtin.Dict.entriesForEmpty;refine wpAny_bind (wpAny_bind (wpAny_dictEntries ho hdo (wpAny_bind ?_)));rw[<- Array.forIn_toList];refine wpAny_forIn_list _ (λdj _ z=>z=s/\∀e∈dj,e∈es.toList) _ (λe dj _ z hz'=>?_) (λ_ z hz'=>?_) _ _ ⟨rfl,λe he=>he⟩
 ·obtain⟨rfl,he⟩:=hz';obtain⟨q,ek,ty⟩:=hr e (he e (List.mem_cons_self ..));unfold Builtin.Dict.quietEq;rw[ek];refine wpAny_bind (wpAny_bind (wpAny_specialOf ty PySem.F.slot_tuple_eq.lookup (wpAny_pure ?_)));have no:(some (Value.builtin "tuple.__eq__")==some (Value.builtin "object.__eq__"))=false:=by decide
  rw[no];simp only[Bool.not_false,if_true];rw[if_neg (Nat.not_lt.2 (hf e (he e (List.mem_cons_self ..))))];exact wpAny_pure ⟨rfl,λx hx=>he x (List.mem_cons_of_mem _ hx)⟩
 ·obtain⟨rfl,_⟩:=hz';refine wpAny_pure ?_;have ne:(!es.isEmpty)=true:=by simp;intro z;rw[z]at h0;exact absurd h0 (by simp)
  rw[if_pos ne];exact wpAny_bind (wpAny_updateDictKeysTo hd hdd (wpAny_pure h) (by omega))
end
def DRel.refs(I:Inv X pins σ H s):∀{xs:DX}{us:DU},DRel xs us->iB X.K H xs->∀u∈us,s.TypeIs (.ref u.2.1) "tuple"
 |_,_,.nil,_,u,hu=>nomatch hu
 |x::xs,y::us,.cons h t,kk,u,hu=>by
  rcases List.mem_cons.1 hu with rfl|hu;·obtain⟨its,rv,⟨o,h1,h2,_⟩,_⟩:=I.tuple (kk x (List.mem_cons_self ..));exact⟨o,h.2.1▸h1,h2⟩
  ·exact DRel.refs I t (λz hz=>kk z (List.mem_cons_of_mem _ hz)) u hu
def tm:kI X (.type "dict") (λxs H Q=>∃a o ys,xs=[.ref a]/\H a=some (DctO a o ys)/\iB X.K H ys/\Kr ys/\ys≠[]/\∀p o',H p=none->Q (.ref p) (upd H p (DctO p o' ys))):=by
 intro pins s σ H xs vs Q I r h;obtain⟨a,o0,ys,rfl,e,kk,tw,ne,q⟩:=h;obtain⟨u,rfl,rx⟩:=zr r;cases rx;obtain⟨z,hd,us,rel,dd⟩:=oF I e kk;obtain⟨o,es,ep,h1,h2,h3,h4,h5,h6⟩:=id dd;have tn:∀h:Heap,h.get? s.heap.objs.size=some { cls:=.type "dict",data:=.dict #[] }->Shared.TypeIs { s with heap:=h } (.ref s.heap.objs.size) "dict":=λh e=>⟨_,e,rfl⟩
 have hlt:=Heap.lt_size h1;have ho:(s.heap.push { cls:=.type "dict",data:=.dict #[] }).get? a=some o:=Heap.get?_push_of_some _ h1;have hn:(s.heap.push { cls:=.type "dict",data:=.dict #[] }).get? s.heap.objs.size=some { cls:=.type "dict",data:=.dict #[] }:=Heap.get?_push_size _ rfl;have ta:Shared.TypeIs { s with heap:=s.heap.push { cls:=.type "dict",data:=.dict #[] } } (.ref a) "dict":=⟨o,ho,h2.1⟩
 have ez:es.size=us.length:=by rw[<- Array.length_toList,h4,List.length_map]
 have uz:us.length=ys.length:=(Paired.length rel).symm;refine callType_codes (Q₁:=λv t=>v=.ref s.heap.objs.size/\t={ s with heap:=s.heap.push { cls:=.type "dict",data:=.dict #[] } }) PySem.F.kt_called_dict (PySem.F.kt_typeCall_dict_1 _) PySem.F.entry_dict_init (kt_code_dict_new _ ⟨rfl,rfl⟩) λv t hv=>?_;obtain⟨rfl,rfl⟩:=hv;refine⟨tn _ hn,PySem.F.args_dict_init_2 _ _,?_⟩;have fin:∀h',h'=(s.heap.push { cls:=.type "dict",data:=.dict #[] }).update s.heap.objs.size (Obj.mapDictKeys λ_=>es)->EP X pins σ Q (.ref s.heap.objs.size) { s with heap:=h' }:=λh' eh=>by subst eh;refine⟨.ref s.heap.objs.size,_,I.laid (t':=s.toks) (λb y hb=>?_) (Nat.le_refl _) (DctO.ok ⟨Heap.get?_update_self _ hn rfl,z,I.big0,⟨rfl,rfl,rfl⟩,us,rel,es,_,rfl,h4,h6⟩),rfl,q _ _ (I.hok.fresh (Nat.le_refl _))⟩;exact(Heap.get?_update_ne _ _ _ _ (Nat.ne_of_lt (Heap.lt_size hb))).trans (Heap.get?_push_of_some _ hb)
 have mg:∀{id:String}{Q':Unit->Shared->Prop}{A':Around}{E':Value->Shared->Prop},Q' () { s with heap:=(s.heap.push { cls:=.type "dict",data:=.dict #[] }).update s.heap.objs.size (Obj.mapDictKeys λ_=>es) }->wpAny (model X.prog X.w) A' (Builtin.Dict.mergeDict id s.heap.objs.size a) Q' E' { s with heap:=s.heap.push { cls:=.type "dict",data:=.dict #[] } }:=λhq=>
  wN (beq_eq_false_iff_ne.2 (Nat.ne_of_gt hlt)) hd hn rfl ho h3 (by omega) (by rw[ez,uz];exact List.length_pos_iff.2 ne) (λx hx=>by
   rw[h4]at hx;obtain⟨u,hu,rfl⟩:=List.mem_map.1 hx;obtain⟨ob,e1,e2⟩:=DRel.refs I rel kk u hu;exact⟨u.2.1,rfl,ob,Heap.get?_push_of_some _ e1,e2⟩) (λx hx=>by
   have hh:=DQ (c:=x.hash) (sW (rel.twos tw) h6);rw[<- Array.length_toList,Array.toList_filter,h4,List.filter_map,List.length_map];exact hh) hq;unfold Builtin.«dict.__init__» Builtin.Dict.selfAndRest;have sub:=PySem.F.kt_sub_dict
 wp_walk using wpAny_notOrdered_dict (tn _ hn),wpAny_specialOf ta PySem.F.slot_dict_iter.lookup,mg
 exact⟨rfl,fin _ rfl⟩
section
variable{prog:Program}{w:World}{A:Around}{d:Addr}{es:Array DictEntry}{ep:Nat}
def xf{Q:Value->Shared->Prop}(hs:(d==sysModules)=false)(ho:s.heap.get? d=some o)(hx:o.ExactDict)(h:Q (.ref s.heap.objs.size) { s with heap:=s.heap.push { cls:=.type "dict_items",data:=.fields #[.ref d] } }):
  wpAny (model prog w) A (call (.builtin "dict.items") [.ref d]) Q E s:=by
 have t:s.TypeIs (.ref d) "dict":=⟨o,ho,hx.1⟩
 refine wpAny_call_entry PySem.F.slot_dict_items t PySem.F.entry_dict_items ?_ (PySem.F.args_dict_items_1 _);unfold Builtin.«dict.items» Builtin.Dict.noArgs Builtin.Dict.showsAll
 wp_walk using wpAny_notOrdered_dict t
 exact⟨_,rfl,h⟩
def xu{v:Addr}{Q:Value->Shared->Prop}(hv:s.heap.get? v=some { cls:=.type "dict_items",data:=.fields #[.ref d] })(ho:s.heap.get? d=some o)(hd:o.data=.dict es ep)(h:Q (.ref s.heap.objs.size) { s with heap:=s.heap.push { cls:=.type "dict_itemiterator",data:=.fields #[.none,.bool false,.ref d,.int 0 0,.int es.size 0,.int ep 0,.none,.none] } }):
  wpAny (model prog w) A (pyIter (.ref v)) Q E s:=by
 have t:s.TypeIs (.ref v) "dict_items":=⟨_,hv,rfl⟩
 refine wpAny_pyIter_slot t PySem.F.slot_dict_items_iter (wpAny_call_entry PySem.F.slot_dict_items_iter t PySem.F.entry_dict_items_iter ?_ (PySem.F.args_dict_items_iter_1 _));unfold Builtin.«dict_items.__iter__» Builtin.Dict_items.dictOf Builtin.Dict_items.newIterator
 wp_walk using wpAny_field hv rfl (x:=.ref d) rfl,wpAny_dictEntries ho hd,wpAny_dictEpoch ho hd
 have own:Builtin.Dict_items.ownsTuple "dict_itemiterator"=true:=by decide
 refine⟨_,rfl,"dict_itemiterator",_,⟨_,Heap.get?_push_size _ rfl,rfl⟩,PySem.F.slot_dict_itemiterator_next.lookup,?_⟩;simpa[own,rawInt,Builtin.Dict_items.ownedTupleFields]using h
noncomputable def MZ(it d:Addr)(n ep i:Nat)(h:Heap):Prop:=∃x y,IsItemIter h it d i n ep x y
def wY{Q:Option Value->Shared->Prop}{x y:Value}(hi:IsItemIter s.heap it d i es.size ep x y)(hne:d≠it)(ho:s.heap.get? d=some o)(hd:o.data=.dict es ep)(hl:i<es.size)(h:∀h',IsItemIterOut h' it d (i+1) es.size ep es[i].key es[i].val s.heap.objs.size->h'.get? s.heap.objs.size=some { cls:=.type "tuple",data:=.seq #[es[i].key,es[i].val] }->(∀b ob,b≠it->s.heap.get? b=some ob->h'.get? b=some ob)->Q (some (.ref s.heap.objs.size)) { s with heap:=h' }):
  wpAny (model prog w) A (pyNext (.ref it)) Q E s:=by
 have t:s.TypeIs (.ref it) "dict_itemiterator":=⟨_,hi,rfl⟩
 have own:Builtin.Dict_items.ownsTuple "dict_itemiterator"=true:=by decide
 unfold pyNext;refine wpAny_bind (wpAny_attempt (wpAny_callSpecial?_slot (name:=Str.ofString "__next__") t PySem.F.slot_dict_itemiterator_next (wpAny_call_entry PySem.F.slot_dict_itemiterator_next t PySem.F.entry_dict_itemiterator_next ?_ (PySem.F.args_dict_itemiterator_next_1 _))));unfold Builtin.«dict_itemiterator.__next__»
 wp_walk using wpAny_typeNameOfWhole_itemiter t,wpAny_fieldsOf hi rfl,wpAny_dictEntries ho hd,wpAny_dictEpoch ho hd
 have i0:(if (i:Int)<0 then none else es[(i:Int).toNat]?)=some es[i]:=by rw[if_neg (by omega),Int.toNat_natCast,Array.getElem?_eq_getElem hl]
 rw[i0];have e0:((i+1:Nat):Int)=(i:Int)+1:=by omega
 refine wpAny_bind (wpAny_bind (wpAny_typeNameOfWhole_itemiter t (wpAny_pure (wpAny_bind (wpAny_isOneOf_itemiter t ?_)))));show wpAny _ _ (setField (.ref it) 3 (rawInt ((i:Int)+1))>>=_) _ _ s;refine wpAny_bind (wpAny_setField_rec hi (by simp) λh1 e1 s1=>wpAny_bind (wpAny_holding ?_));have e1:IsItemIter h1 it d (i+1) es.size ep x y:=by unfold IsItemIter;rw[e0];simpa[rawInt]using e1
 have t1:Shared.TypeIs { s with heap:=h1 } (.ref it) "dict_itemiterator":=⟨_,e1,rfl⟩
 refine wpAny_bind (wpAny_isOneOf_itemiter t1 (wpAny_bind (wpAny_isOneOf_itemiter t1 ?_)));show wpAny _ _ (Builtin.Dict_items.pairFromOwner (.ref it) 6 es[i].key es[i].val) _ _ { s with heap:=h1 };unfold Builtin.Dict_items.pairFromOwner;refine wpAny_bind (wpAny_newTuple ?_);have e2:IsItemIter (h1.push { cls:=.type "tuple",data:=.seq #[es[i].key,es[i].val] }) it d (i+1) es.size ep x y:=Heap.get?_push_of_some _ e1;have lt:it<s.heap.objs.size:=Heap.lt_size hi;have z1:h1.objs.size=s.heap.objs.size:=s1.1;have g2:(h1.push { cls:=.type "tuple",data:=.seq #[es[i].key,es[i].val] }).get? s.heap.objs.size=some { cls:=.type "tuple",data:=.seq #[es[i].key,es[i].val] }:=by rw[<- z1];exact Heap.get?_push_size _ rfl
 have k2:∀b ob,b≠it->s.heap.get? b=some ob->(h1.push { cls:=.type "tuple",data:=.seq #[es[i].key,es[i].val] }).get? b=some ob:=λb ob n q=>Heap.get?_push_of_some _ (s1.extBut b ob n q);rw[show({ s with heap:=h1 }:Shared).heap.objs.size=s.heap.objs.size from z1];generalize h1.push { cls:=.type "tuple",data:=.seq #[es[i].key,es[i].val] }=h2 at e2 g2 k2⊢;clear s1 e1 t1 z1 hi t;unfold Builtin.Dict_items.ownedTupleIsFree;have gt:=Nat.ne_of_gt lt;refine wpAny_bind (wpAny_bind (wpAny_field e2 rfl (x:=.none) rfl (wpAny_pure ?_)));rw[if_pos rfl];refine wpAny_bind (wpAny_field e2 rfl (x:=x) rfl (wpAny_bind (wpAny_field e2 rfl (x:=y) rfl (wpAny_bind (wpAny_setField_rec e2 (by simp) λh3 (e3:IsItemIter h3 it d (i+1) es.size ep es[i].key y) s3=>?_)))));refine wpAny_bind (wpAny_setField_rec e3 (by simp) λh4 (e4:IsItemIter h4 it d (i+1) es.size ep es[i].key es[i].val) s4=>wpAny_bind (wpAny_setField_rec e4 (by simp) λh5 (e5:IsItemIterOut h5 it d (i+1) es.size ep es[i].key es[i].val s.heap.objs.size) s5=>?_));refine wpAny_bind (wpAny_setField_rec e5 (by simp) λh6 (e6:IsItemIterOut h6 it d (i+1) es.size ep es[i].key es[i].val s.heap.objs.size) s6=>wpAny_bind (wpAny_letGo (wpAny_pure (wpAny_pure ⟨_,rfl,wpAny_pure (h h6 e6 ?_ ?_)⟩))));·exact s6.extBut _ _ gt (s5.extBut _ _ gt (s4.extBut _ _ gt (s3.extBut _ _ gt g2)))
 ·exact λb ob n q=>s6.extBut b ob n (s5.extBut b ob n (s4.extBut b ob n (s3.extBut b ob n (k2 b ob n q))))
def yX{Q:Option Value->Shared->Prop}{x y:Value}(hh:A.handled=none)(hi:IsItemIter s.heap it d i es.size ep x y)(hne:d≠it)(ho:s.heap.get? d=some o)(hd:o.data=.dict es ep)(hl:es.size<=i)(h:∀h',(∀b ob,b≠it->s.heap.get? b=some ob->h'.get? b=some ob)->Q none { s with heap:=h' }):wpAny (model prog w) A (pyNext (.ref it)) Q E s:=by
 have t:s.TypeIs (.ref it) "dict_itemiterator":=⟨_,hi,rfl⟩
 unfold pyNext;refine wpAny_bind (wpAny_attempt (wpAny_callSpecial?_slot (name:=Str.ofString "__next__") t PySem.F.slot_dict_itemiterator_next (wpAny_call_entry PySem.F.slot_dict_itemiterator_next t PySem.F.entry_dict_itemiterator_next ?_ (PySem.F.args_dict_itemiterator_next_1 _))));unfold Builtin.«dict_itemiterator.__next__»
 wp_walk using wpAny_typeNameOfWhole_itemiter t,wpAny_fieldsOf hi rfl,wpAny_dictEntries ho hd,wpAny_dictEpoch ho hd
 have i0:(if (i:Int)<0 then none else es[(i:Int).toNat]?)=none:=by rw[if_neg (by omega),Int.toNat_natCast,Array.getElem?_eq_none hl]
 rw[i0];refine wpAny_bind (wpAny_bind (wpAny_typeNameOfWhole_itemiter t (wpAny_pure ?_)));show wpAny _ _ (setField (.ref it) 2 .none>>=_) _ _ s;refine wpAny_bind (wpAny_setField_rec hi (by simp) λh1 e1 s1=>?_);have sub:=isSubtype_stop;have hh1:A.in1.handled=none:=hh;clear i0 e1 t hi;simp only[newExc,raiseNew]
 wp_walk
 exact h _ λb ob n q=>Heap.get?_push_of_some _ (Heap.get?_push_of_some _ (s1.extBut b ob n q))
end
def Ba{ob:Obj}(hb:b<h.objs.size)(q:(h.push ob).get? b=some o):h.get? b=some o:=by unfold Heap.get? Heap.push at *;simpa[Array.getElem?_push,Nat.ne_of_lt hb]using q
noncomputable def Itd(a:Addr)(o:Obj)(xs:DX):It:=
 ⟨λi H=>H a=some (DctO a o xs)/\i<xs.length,λi H x H'=>∃p y,x=.ref p/\H p=none/\xs[i]?=some y/\H'=upd H p (.tup [.ref y.2.1,y.2.2]),λi H=>H a=some (DctO a o xs)/\xs.length<=i⟩
def DRel.get:∀{xs:DX}{us:DU}{i:Nat}{x:List Bool×Addr×V},DRel xs us->xs[i]?=some x->∃u,us[i]?=some u/\x.2.1=u.2.1/\RelV x.2.2 u.2.2
 |_,_,i,_,.nil,e=>by simp at e
 |_,_,0,_,.cons h _,e=>by simp at e;subst e;exact⟨_,rfl,h.2⟩
 |_,_,i+1,_,.cons _ t,e=>DRel.get (i:=i) t (by simpa using e)
def mR{xs:DX}(I:Inv X pins σ H s)(e:H a=some (DctO a o xs)):EF a o xs s.heap:=
 (show ObjOk X.prog X.w H s.heap a (DctO a o xs) from I.hok a _ e).1
def xp{w:World}{K:PySem.W.Frag}{tp:Pos}(a it:Addr)(o:Obj)(xs:DX){es:Array DictEntry}{ep:Nat}(hd:o.data=.dict es ep)(hz:es.size=xs.length):
  Turn P w K (.Tuple elts kt tp) (Itd a o xs) [it] it (λi h=>MZ it a es.size ep i h) where
 mem:=by simp
 obj:=λi h st b hb=>by
  obtain⟨x,y,q⟩:=st;obtain rfl:b=it:=by simpa using hb
  exact⟨_,q,λv z=>by cases z⟩
 keep:=λi h h' ⟨x,y,q⟩ k=>⟨x,y,k it (by simp) _ q⟩
 item:=by
  intro X hP hw hK hc i pins s σ H E I hf st hg;subst hP hw hK;obtain⟨x,y,hi⟩:=st;obtain⟨e,hl⟩:=hg;obtain⟨h1,z1,z2,h2,us,r,es',ep',h3,h4,h5⟩:=mR I e;rw[hd]at h3;cases h3;obtain⟨f0,f1,f2,f3,f4,f5⟩:=hf it (by simp);have ne:a≠it:=λz=>by rw[z,f0]at e;cases e
  have hlt:i<es.size:=by omega
  obtain⟨u,hu,k1,k2⟩:=r.get (List.getElem?_eq_getElem hl);have ee:es[i]=⟨sg u.1,.ref u.2.1,u.2.2⟩:=by
   have q:es.toList[i]?=some es[i]:=by simp[hlt]
   rw[h4,List.getElem?_map,hu]at q;exact(Option.some.inj q).symm
  have hp:H s.heap.objs.size=none:=I.hok.fresh (Nat.le_refl _);have npt:s.heap.objs.size≠it:=Nat.ne_of_gt (Heap.lt_size hi);refine wY hi ne h1 hd hlt λh6 o6 g6 k6=>⟨_,rfl,wpAny_letOwnedTupleGo_items o6 λh7 o7 s7=>?_⟩
  have Ia:Inv X pins σ (upd H s.heap.objs.size (.tup [.ref xs[i].2.1,xs[i].2.2])) { s with heap:=s.heap.push { cls:=.type "tuple",data:=.seq #[es[i].key,es[i].val] } }:=by
   refine I.laid (t':=s.toks) (λb ob q=>Heap.get?_push_of_some _ q) (Nat.le_refl _) ⟨by show 2<=sizeLine;decide,[es[i].key,es[i].val],.cons ?_ (.cons ?_ .nil),IsTup.new _ _⟩;·rw[ee,k1];rfl
   ·rw[ee];exact k2
  have Ib:Inv X pins σ (upd H s.heap.objs.size (.tup [.ref xs[i].2.1,xs[i].2.2])) { s with heap:=h7 }:=by
   refine Inv.turned (s:={ s with heap:=s.heap.push { cls:=.type "tuple",data:=.seq #[es[i].key,es[i].val] } }) (h':=h7) (t':=s.toks) (it:=it) Ia (λb ob n q=>?_) (by rw[aH (Ne.symm npt)];exact f0) f1 f3 f4 f5;refine(s7.2 b n).trans ?_;by_cases z:b=s.heap.objs.size;·subst z;have q':=Heap.get?_push_size s.heap (o:={ cls:=.type "tuple",data:=.seq #[es[i].key,es[i].val] }) rfl;exact(g6.trans q'.symm).trans q
   ·refine k6 b ob n ?_;have q:(s.heap.push { cls:=.type "tuple",data:=.seq #[es[i].key,es[i].val] }).get? b=some ob:=q;rcases Nat.lt_or_ge b s.heap.objs.size with hb|hb;·exact Ba hb q
    ·have hlt:=Heap.lt_size q;rw[Heap.size_push]at hlt;exact absurd (Nat.le_antisymm (Nat.le_of_lt_succ hlt) hb) z
  exact⟨.ref s.heap.objs.size,_,Ib,rfl,⟨_,_,rfl,hp,List.getElem?_eq_getElem hl,rfl⟩,⟨_,_,o7⟩,λb hb=>by
   obtain rfl:b=it:=by simpa using hb
   rw[aH (Ne.symm npt)];exact f0⟩
 done:=by
  intro X hP hw hK hc i pins s σ H E I hf st hg;subst hP hw hK;obtain⟨x,y,hi⟩:=st;obtain⟨e,hl⟩:=hg;obtain⟨h1,_⟩:=mR I e;obtain⟨f0,f1,f2,f3,f4,f5⟩:=hf it (by simp);have ne:a≠it:=λz=>by rw[z,f0]at e;cases e
  exact yX (I.ok.hd hc) hi ne h1 hd (by omega) λh' k=>⟨rfl,I.turned (t':=s.toks) k f0 f1 f3 f4 f5⟩
 self:=λA i s Q E ⟨x,y,q⟩ h=>PySem.W.kcp_self q h
def De{o:Expr}{t:TE}{tp ap cp:Pos}(ho:PE X o t)(hbase:attributeBase o "items" X.env (eval o X.env)=eval o X.env:=by rfl)(hline:(ap.endLine==cp.line)=true:=by rfl):
  PI X (.Tuple elts kt tp) (.Call (.Attribute o "items" ap) [] [] cp) (λσ H R=>t σ H λx H1=>∃a ob xs,x=.ref a/\H1 a=some (DctO a ob xs)/\R (Itd a ob xs) H1):=λpins s σ H R I h=>by
 refine wpAny_Call_method0_late hbase hline (thn (ho pins s σ H _ I h) λv s1 ⟨x,H1,I1,r1,a,ob,xs,ex,e,hR⟩=>?_);subst ex;cases r1;obtain⟨h1,z1,z2,h2,us,r,es,ep,h3,h4,h5⟩:=mR I1 e;have hz:es.size=xs.length:=by rw[<- Array.length_toList,h4,List.length_map];exact(Paired.length r).symm
 refine⟨"dict","dict.items",PySem.F.plainAttrs_dict,PySem.F.slot_dict_items,PySem.F.type_dict_items,⟨ob,h1,h2.1⟩,λb eb=>?_,Calls.callWith_builtin rfl (PySem.evalArgs_none (xf z2 h1 h2 ?_))⟩;·cases eb;exact⟨ob,h1,h2.2.1⟩
 have I2:Inv X pins σ H1 { s1 with heap:=s1.heap.push { cls:=.type "dict_items",data:=.fields #[.ref a] } }:=I1.kept (t':=s1.toks) λb q e=>Heap.get?_push_of_some _ e;refine xu (Heap.get?_push_size _ rfl) (Heap.get?_push_of_some _ h1) h3 ?_;refine⟨_,[_],_,_,H1,rfl,I2.kept (t':=s1.toks) λb q e=>Heap.get?_push_of_some _ e,xp a _ ob xs h3 hz,⟨_,_,Heap.get?_push_size _ rfl⟩,λb hb=>?_,hR⟩;obtain rfl:=List.mem_singleton.1 hb;exact I2.fpOk (Nat.le_refl _) (I2.hok.fresh (Nat.le_refl _))
end L2
set_option maxRecDepth 100000
set_option maxHeartbeats 4000000
namespace L2
open PySem PySem.Spec PyProof.Rows
inductive D where
  |non|bl (b : Bool)|int (i : Int)|str (x : List Nat)|tup (xs : List D)|lst (fz : Bool) (xs : List D)|exc (C : Addr)
  |dct (ks : List Nat) (xs : List D)
noncomputable def code(a b:Bool):Nat:=(if a then 1 else 0)+(if b then 2 else 0)
inductive KeysAt(K:PySem.W.Frag)(G:Hp):DX->List Nat->Prop
 |nil:KeysAt K G [] []
 |cons {q:Addr} {v:V} {a b:Bool} {xs:DX} {ks:List Nat} (h:SqT K G q [.bl a,.bl b]) (t:KeysAt K G xs ks):KeysAt K G (([a,b],q,v)::xs) (code a b::ks)
noncomputable def HL(a C:Addr):Heap->Prop:=λh=>∃ob,h.get? a=some ob/\ob.cls=.ref C
mutual
inductive Rep(K:PySem.W.Frag)(G:Hp):V->D->Prop
 |non:Rep K G .non .non
 |bl (b:Bool):Rep K G (.bl b) (.bl b)
 |int (i:Int):Rep K G (.int i) (.int i)
 |str (x:Str) (h:x.length<=sizeLine):Rep K G (.str x) (.str x.cps.toList)
 |tup {a:Addr} {vs:List V} {ds:List D} (h:SqT K G a vs) (r:Reps K G vs ds):Rep K G (.ref a) (.tup ds)
 |lst {a:Addr} {vs:List V} {ds:List D} (h:G a=some (.lst vs)) (r:Reps K G vs ds):Rep K G (.ref a) (.lst false ds)
 |fls {a:Addr} {vs:List V} {ds:List D} (h:SqL K G a vs) (r:Reps K G vs ds):Rep K G (.ref a) (.lst true ds)
 |exc {a C:Addr} (h:G a=some (.ext (HL a C))):Rep K G (.ref a) (.exc C)
 |dct {a:Addr} {o:Obj} {xs:DX} {ks:List Nat} {ds:List D} (h:G a=some (DctO a o xs)) (k:KeysAt K G xs ks) (r:Reps K G (xs.map (·.2.2)) ds):Rep K G (.ref a) (.dct ks ds)
inductive Reps(K:PySem.W.Frag)(G:Hp):List V->List D->Prop
 |nil:Reps K G [] []
 |cons {v:V} {d:D} {vs:List V} {ds:List D} (r:Rep K G v d) (t:Reps K G vs ds):Reps K G (v::vs) (d::ds)
end
section
variable{K:PySem.W.Frag}{G' G1 H1 G2 H2:Hp}
def SqT.mono(e:Same G G')(h:SqT K G a xs):SqT K G' a xs:=by
 rcases h with (h|⟨o,h⟩)|h;·exact .inl (.inl (e _ _ h))
 ·exact .inl (.inr ⟨o,e _ _ h⟩)
 ·exact .inr h
def KeysAt.mono(e:Same G G'):∀{xs:DX}{ks:List Nat},KeysAt K G xs ks->KeysAt K G' xs ks
 |_,_,.nil=>.nil
 |_,_,.cons h t=>.cons (h.mono e) (t.mono e)
def SqL.mono(e:Same G G')(h:SqL K G a xs):SqL K G' a xs:=e.seq h
mutual
def Rep.mono(e:Same G G'):∀{v:V}{d:D},Rep K G v d->Rep K G' v d
 |_,_,.non=>.non
 |_,_,.bl b=>.bl b
 |_,_,.int i=>.int i
 |_,_,.str x h=>.str x h
 |_,_,.tup h r=>.tup (h.mono e) (Reps.mono e r)
 |_,_,.lst h r=>.lst (e _ _ h) (Reps.mono e r)
 |_,_,.fls h r=>.fls (h.mono e) (Reps.mono e r)
 |_,_,.exc h=>.exc (e _ _ h)
 |_,_,.dct h k r=>.dct (e _ _ h) (k.mono e) (Reps.mono e r)
def Reps.mono(e:Same G G'):∀{vs:List V}{ds:List D},Reps K G vs ds->Reps K G' vs ds
 |_,_,.nil=>.nil
 |_,_,.cons r t=>.cons (Rep.mono e r) (Reps.mono e t)
end
section inv
def Rep.int_inv{i:Int}(r:Rep K G v (.int i)):v=.int i:=by cases r;rfl
def Rep.bl_inv{b:Bool}(r:Rep K G v (.bl b)):v=.bl b:=by cases r;rfl
def Rep.non_inv(r:Rep K G v .non):v=.non:=by cases r;rfl
def Rep.str_inv{x:List Nat}(r:Rep K G v (.str x)):∃y:Str,v=.str y/\y.cps.toList=x/\y.length<=sizeLine:=by
 generalize e:D.str x=d at r;cases r with
 |str y h=>cases e;exact⟨y,rfl,rfl,h⟩
 |_=>cases e
def Rep.tup_inv{ds:List D}(r:Rep K G v (.tup ds)):∃a vs,v=.ref a/\SqT K G a vs/\Reps K G vs ds:=by
 cases r with
 |tup h t=>exact⟨_,_,rfl,h,t⟩
def Rep.lst_inv{ds:List D}(r:Rep K G v (.lst false ds)):∃a vs,v=.ref a/\G a=some (.lst vs)/\Reps K G vs ds:=by
 cases r with
 |lst h t=>exact⟨_,_,rfl,h,t⟩
def Rep.seq_inv{f:Bool}{ds:List D}(r:Rep K G v (.lst f ds)):∃a vs,v=.ref a/\SqL K G a vs/\Reps K G vs ds:=by
 cases r with
 |lst h t=>exact⟨_,_,rfl,.of h,t⟩
 |fls h t=>exact⟨_,_,rfl,h,t⟩
def Rep.strL{x:List Nat}(e:y.cps.toList=x)(h:x.length<=sizeLine):Rep K G (.str y) (.str x):=by subst e;exact .str y (by simpa[Str.length]using h)
end inv
def Reps.length:∀{vs:List V}{ds:List D},Reps K G vs ds->vs.length=ds.length
 |_,_,.nil=>rfl
 |_,_,.cons _ t=>by simp[Reps.length t]
def Reps.get:∀{vs:List V}{ds:List D}{i:Nat}{d:D},Reps K G vs ds->ds[i]?=some d->∃v,vs[i]?=some v/\Rep K G v d
 |_,_,_,_,.nil,e=>by simp at e
 |_,_,0,_,.cons r _,e=>by simp at e;subst e;exact⟨_,rfl,r⟩
 |_,_,i+1,d,.cons _ t,e=>by obtain⟨v,h1,h2⟩:=Reps.get (i:=i) (d:=d) t (by simpa using e);exact⟨v,by simpa using h1,h2⟩
def Reps.append:∀{vs ws:List V}{ds es:List D},Reps K G vs ds->Reps K G ws es->Reps K G (vs++ws) (ds++es)
 |_,_,_,_,.nil,s=>s
 |_,_,_,_,.cons r t,s=>.cons r (Reps.append t s)
def Reps.take:∀{vs:List V}{ds:List D}(n:Nat),Reps K G vs ds->Reps K G (vs.take n) (ds.take n)
 |_,_,0,_=>by simpa using Reps.nil
 |_,_,_+1,.nil=>.nil
 |_,_,n+1,.cons r t=>.cons r (Reps.take n t)
def Reps.drop:∀{vs:List V}{ds:List D}(n:Nat),Reps K G vs ds->Reps K G (vs.drop n) (ds.drop n)
 |_,_,0,r=>r
 |_,_,_+1,.nil=>.nil
 |_,_,n+1,.cons _ t=>Reps.drop n t
def Reps.set{d:D}(r:Rep K G v d):∀{vs:List V}{ds:List D}(i:Nat),Reps K G vs ds->Reps K G (vs.set i v) (ds.set i d)
 |_,_,_,.nil=>.nil
 |_,_,0,.cons _ t=>.cons r t
 |_,_,i+1,.cons q t=>.cons q (Reps.set r i t)
def Reps.rep{ds:List D}(r:Reps K G vs ds):∀n:Nat,Reps K G (List.replicate n vs).flatten (List.replicate n ds).flatten
 | 0=>.nil
 |n+1=>by simp only[List.replicate_succ,List.flatten_cons];exact Reps.append r (Reps.rep r n)
structure Up(G H G' H':Hp):Prop where
 sub:Same G' H'
 gg:Same G G'
 hh:Same H H'
 fr:∀a o,G' a=some o->G a=some o\/H a=none
def Up.refl(s:Same G H):Up G H G H:=⟨s,.refl _,.refl _,λ_ _ h=>.inl h⟩
def Up.trans(a:Up G H G1 H1)(b:Up G1 H1 G2 H2):Up G H G2 H2:=⟨b.sub,a.gg.trans b.gg,a.hh.trans b.hh,λc o h=>by
 rcases b.fr c o h with h|h;·exact a.fr c o h
 ·exact .inr (a.hh.free h)⟩
def Same.both{o:HO}(s:Same G H):Same (upd G p o) (upd H p o):=λa u h=>by
 unfold L2.upd at h⊢;split;·rename_i e;rw[if_pos e]at h;exact h
 ·rename_i e;rw[if_neg e]at h;exact s a u h
def Same.into{o:HO}(h:H p=none):Same H (upd H p o):=λa u e=>by rw[aH (aP e h)];exact e
def Up.new{o:HO}(s:Same G H)(hp:H p=none):Up G H (upd G p o) (upd H p o):=
 ⟨s.both,.into (s.free hp),.into hp,λa u h=>by
  by_cases e:a=p;·subst e;exact .inr hp
  ·rw[aH e]at h;exact .inl h⟩
end
inductive R(α:Type) where
 |ok (a:α)|ex (C:Addr)|no
noncomputable def R.bind{α β:Type}:R α->(α->R β)->R β
 |.ok a,f=>f a
 |.ex C,_=>.ex C
 |.no,_=>.no
noncomputable instance:Monad R where
 pure:=.ok
 bind:=R.bind
section
variable{α β:Type}
@[simp] theorem R.ok_bind(a:α)(f:α->R β):(R.ok a>>=f)=f a:=rfl
@[simp] theorem R.ex_bind(C:Addr)(f:α->R β):((R.ex C:R α)>>=f)=.ex C:=rfl
noncomputable def R.post(m:R α)(P:α->Prop)(E:Addr->Prop):Prop:=match m with
 |.ok a=>P a
 |.ex C=>E C
 |.no=>False
def R.post.mono{m:R α}{P P':α->Prop}{E E':Addr->Prop}(h:m.post P E)(hp:∀a,P a->P' a)(he:∀C,E C->E' C):m.post P' E':=by
 cases m with
 |ok a=>exact hp a h
 |ex C=>exact he C h
 |no=>exact h
noncomputable def ofO:Option α->R α
 |some a=>.ok a
 |none=>.no
@[simp] theorem cS(a:α):ofO (some a)=R.ok a:=rfl
theorem ofO.ok{o:Option α}{P:α->Prop}{E:Addr->Prop}(h:(ofO o).post P E):∃a,o=some a/\P a:=by
 cases o with
 |none=>exact h.elim
 |some a=>exact⟨a,rfl,h⟩
end
inductive Fd where
 |val (d:D)|own (ds:List D)
inductive Sl where
  |val (d : D)
  |own (ds : List D)
  |obj (m : Bool) (C p : Addr) (fs : List (Nat × Fd))
noncomputable abbrev Ev:=List (Option Sl)
noncomputable def rdV(ρ:Ev)(i:Nat):R D:=match ρ[i]? with
 |some (some (.val d))=>.ok d
 |_=>.no
noncomputable abbrev rvz(i:Nat):Ev->R D:=λρ=>rdV ρ i
noncomputable abbrev ciz(n:Int):Ev->R D:=λ_=>R.ok (D.int n)
noncomputable abbrev nlz:Ev->R (List D):=λ_=>R.ok []
noncomputable abbrev csz(x:List Nat):Ev->R D:=λ_=>R.ok (D.str x)
noncomputable def fnames:List Str:=["states","taken_back","width","screen","last_notes","tasks","numbers_given"]
noncomputable def di(k:Nat):Str:=fnames.getD k ""
noncomputable abbrev ko:=Addr->Option (Nat×Nat)
noncomputable def FdAt(K:PySem.W.Frag)(H₀ G H:Hp)(ow:ko)(i:Nat)(m:Bool)(k:Nat):Fd->V->Prop
 |.val d,v=>Rep K G v d
 |.own ds,v=>∃l ws,v=.ref l/\H l=some (.lst ws)/\G l=none/\(m=true->H₀ l=none)/\Reps K G ws ds/\ow l=some (i,k+1)
inductive FdsAt(K:PySem.W.Frag)(H₀ G H:Hp)(ow:ko)(i:Nat)(m:Bool):List (Nat×Fd)->List (Str×V)->Prop
 |nil:FdsAt K H₀ G H ow i m [] []
 |cons {k:Nat} {fd:Fd} {v:V} {fs:List (Nat×Fd)} {vs:List (Str×V)} (h:k<fnames.length) (nk:fs.lookup k=none) (r:FdAt K H₀ G H ow i m k fd v) (t:FdsAt K H₀ G H ow i m fs vs):FdsAt K H₀ G H ow i m ((k,fd)::fs) ((di k,v)::vs)
noncomputable def InsAt(K:PySem.W.Frag)(H₀ G H:Hp)(ow:ko)(i:Nat)(m:Bool)(C p:Addr)(fs:List (Nat×Fd)):Prop:=
 ∃dx vs,H p=some (.ins C dx vs)/\H dx=some (.own p)/\G p=none/\G dx=none/\(m=true->H₀ p=none/\H₀ dx=none)/\ow p=some (i,0)/\ow dx=some (i,0)/\FdsAt K H₀ G H ow i m fs vs
noncomputable def DcoAt(K:PySem.W.Frag)(H₀ G H:Hp)(ow:ko)(i:Nat)(m:Bool)(p:Addr)(fs:List (Nat×Fd)):Prop:=
 ∃o xs ks ds,H p=some (DctO p o xs)/\G p=none/\(m=true->H₀ p=none)/\ow p=some (i,0)/\KeysAt K G xs ks/\Reps K G (xs.map (·.2.2)) ds/\fs=ks.zip (ds.map Fd.val)
noncomputable abbrev DC:Addr:=0
noncomputable def ObjAt(K:PySem.W.Frag)(H₀ G H:Hp)(ow:ko)(i:Nat)(m:Bool)(C p:Addr)(fs:List (Nat×Fd)):Prop:=(C≠DC/\InsAt K H₀ G H ow i m C p fs)\/(C=DC/\DcoAt K H₀ G H ow i m p fs)
def JA:∀{ds:List D}{k:Nat}{es:List D},(ks.zip (ds.map Fd.val)).lookup k≠some (.own es):=by
 induction ks with
 |nil=>intro ds k es h;simp at h
 |cons a ks ih=>
  intro ds k es h;cases ds with
  |nil=>simp at h
  |cons d ds=>
   simp only[List.map_cons,List.zip_cons_cons,List.lookup_cons]at h;split at h;·cases h
   ·exact ih h
section
variable{K:PySem.W.Frag}{H₀:Hp}{ow:ko}{m:Bool}{fs:List (Nat×Fd)}
def ObjAt.ins(h:ObjAt K H₀ G H ow i m C p fs)(ne:C≠DC):InsAt K H₀ G H ow i m C p fs:=(h.resolve_right λz=>ne z.1).2
def ObjAt.dco(h:ObjAt K H₀ G H ow i m DC p fs):DcoAt K H₀ G H ow i m p fs:=(h.resolve_left λz=>z.1 rfl).2
def ObjAt.insH{C' dx:Addr}{vs:List (Str×V)}(h:ObjAt K H₀ G H ow i m C p fs)(e:H p=some (.ins C' dx vs)):C≠DC/\InsAt K H₀ G H ow i m C p fs:=h.resolve_right λ⟨_,o,xs,ks,ds,z,_⟩=>by rw[z]at e;cases e
def ObjAt.insL{es:List D}(h:ObjAt K H₀ G H ow i m C p fs)(e:fs.lookup k=some (.own es)):InsAt K H₀ G H ow i m C p fs:=(h.resolve_right λ⟨_,o,xs,ks,ds,_,_,_,_,_,_,z⟩=>by rw[z]at e;exact JA e).2
end
section
variable{K:PySem.W.Frag}{H₀ H₀' G':Hp}{ow ow':ko}
structure ObKeep(H₀ H₀' G H G' H':Hp)(ow ow':ko)(i:Nat):Prop where
 hh:∀a t o,ow a=some (i,t)->H a=some o->H' a=some o
 gg:Same G G'
 gn:∀a t o,ow a=some (i,t)->H a=some o->G a=none->G' a=none
 oo:∀a t o,ow a=some (i,t)->H a=some o->ow' a=some (i,t)
 h0:∀a o,H a=some o->G a=none->H₀ a=none->H₀' a=none
def FdAt.keep(k:ObKeep H₀ H₀' G H G' H' ow ow' i){m:Bool}{n:Nat}:∀{fd:Fd}{v:V},FdAt K H₀ G H ow i m n fd v->FdAt K H₀' G' H' ow' i m n fd v
 |.val d,v,r=>Rep.mono k.gg (show Rep K G v d from r)
 |.own ds,v,⟨l,ws,e,h1,h2,h3,h4,h5⟩=>⟨l,ws,e,k.hh l _ _ h5 h1,k.gn l _ _ h5 h1 h2,λz=>k.h0 l _ h1 h2 (h3 z),h4.mono k.gg,k.oo l _ _ h5 h1⟩
def FdsAt.keep(k:ObKeep H₀ H₀' G H G' H' ow ow' i){m:Bool}:∀{fs:List (Nat×Fd)}{vs:List (Str×V)},FdsAt K H₀ G H ow i m fs vs->FdsAt K H₀' G' H' ow' i m fs vs
 |_,_,.nil=>.nil
 |_,_,.cons h nk r t=>.cons h nk (FdAt.keep k r) (FdsAt.keep k t)
def InsAt.keep(k:ObKeep H₀ H₀' G H G' H' ow ow' i){m:Bool}{fs:List (Nat×Fd)}(h:InsAt K H₀ G H ow i m C p fs):InsAt K H₀' G' H' ow' i m C p fs:=by obtain⟨dx,vs,h1,h2,h3,h4,h5,h6,h7,h8⟩:=h;exact⟨dx,vs,k.hh p _ _ h6 h1,k.hh dx _ _ h7 h2,k.gn p _ _ h6 h1 h3,k.gn dx _ _ h7 h2 h4,λz=>⟨k.h0 p _ h1 h3 (h5 z).1,k.h0 dx _ h2 h4 (h5 z).2⟩,k.oo p _ _ h6 h1,k.oo dx _ _ h7 h2,h8.keep k⟩
def DcoAt.keep(k:ObKeep H₀ H₀' G H G' H' ow ow' i){m:Bool}{fs:List (Nat×Fd)}(h:DcoAt K H₀ G H ow i m p fs):DcoAt K H₀' G' H' ow' i m p fs:=
 let⟨o,xs,ks,ds,h1,h2,h3,h4,h5,h6,h7⟩:=h
 ⟨o,xs,ks,ds,k.hh p _ _ h4 h1,k.gn p _ _ h4 h1 h2,λz=>k.h0 p _ h1 h2 (h3 z),k.oo p _ _ h4 h1,h5.mono k.gg,h6.mono k.gg,h7⟩
def ObjAt.keep(k:ObKeep H₀ H₀' G H G' H' ow ow' i){m:Bool}{fs:List (Nat×Fd)}(h:ObjAt K H₀ G H ow i m C p fs):ObjAt K H₀' G' H' ow' i m C p fs:=h.imp (λz=>⟨z.1,z.2.keep k⟩) λz=>⟨z.1,z.2.keep k⟩
def ObKeep.up(u:Up G H G' H'):ObKeep H₀ H₀ G H G' H' ow ow i:=by
 have gn:∀a o,H a=some o->G a=none->G' a=none:=λa o e n=>by
  cases q:G' a with
  |none=>rfl
  |some o'=>
   rcases u.fr a o' q with z|z;·rw[n]at z;cases z
   ·rw[e]at z;cases z
 exact⟨λa t o _ e=>u.hh a o e,u.gg,λa t o _ e n=>gn a o e n,λa t o e _=>e,λa o _ _ n=>n⟩
end
def ObjAt.rd{K:PySem.W.Frag}{H₀:Hp}{ow:ko}{m:Bool}{fs:List (Nat×Fd)}(h:ObjAt K H₀ G H ow i m C p fs):ObjAt K (λ_=>none) G H ow i m C p fs:=
 h.keep ⟨λ_ _ _ _ e=>e,.refl _,λ_ _ _ _ _ n=>n,λ_ _ _ e _=>e,λ_ _ _ _ _=>rfl⟩
structure StE(K:PySem.W.Frag)(G H:Hp)(σ:St)(ρ:Ev):Prop where
 sub:Same G H
 len:σ.length=ρ.length
 val:∀(i:Nat) d,ρ[i]?=some (some (.val d))->∃v,σ[i]?=some (some v)/\Rep K G v d
 obs:∀(i:Nat) m C p fs,ρ[i]?=some (some (.obj m C p fs))->σ[i]?=some (some (.ref p))/\∃ow,ObjAt K (λ_=>none) G H ow i m C p fs
def StE.up{K:PySem.W.Frag}{G':Hp}{ρ:Ev}(s:StE K G H σ ρ)(u:Up G H G' H'):StE K G' H' σ ρ:=
 ⟨u.sub,s.len,λi d e=>let⟨v,h1,h2⟩:=s.val i d e;⟨v,h1,h2.mono u.gg⟩,λi m C p fs e=>let⟨h1,ow,h2⟩:=s.obs i m C p fs e;⟨h1,ow,h2.keep (.up u)⟩⟩
noncomputable def Ft(P:Program)(w:World)(outer:List Env)(H:Hp)(s:Shared)(a C:Addr)(H':Hp)(s':Shared):Prop:=
 s'.os=s.os/\AllBare s'.gens/\Un (frs outer) [] H H' s.heap s'.heap/\HOk P w H' s'.heap/\H' a=none/\
 ∃(B:Heap)(a0:Value),Heap.FlyingW B outer a (.ref C) a0 s'.heap/\∀b o,b∉frs outer->((∃o0,s.heap.get? b=some o0)\/∃u,H' b=some u)->s'.heap.get? b=some o->B.get? b=some o
noncomputable def CXo(P:Program)(w:World):CXT:=λouter H s E e s'=>∃a C H',e=.ref a/\Ft P w outer H s a C H' s'/\E (.ref C) none H'
noncomputable def NB(X:Cx)(pins:List (Addr×Obj))(b:Addr):Prop:=
 (b∈X.ex\/X.s₀.heap.objs.size<=b)/\b≠X.env.locals/\(∀x c,X.env.cells.lookup x=some c->c≠b)/\∀p∈X.pn++pins,p.1≠b
noncomputable def Dk(X:Cx)(pins:List (Addr×Obj))(L:Addr)(H:Hp)(s:Shared)(a C:Addr)(H':Hp)(s':Shared):Prop:=
 s'.os=s.os/\AllBare s'.gens/\(∃ch,(∀b∈ch,NB X pins b)/\Un (frs X.stack) ch H H' s.heap s'.heap)/\HOk X.prog X.w H' s'.heap/\H' a=none/\s.heap.get? a=none/\
 ∃(B:Heap)(a0:Value),Heap.HeldW B X.stack a (.ref C) a0 L s'.heap/\∀b o,b∉frs X.stack->((∃o0,s.heap.get? b=some o0)\/∃u,H' b=some u)->s'.heap.get? b=some o->B.get? b=some o
noncomputable def L8(X:Cx)(σ:St)(G₁ H₁:Hp)(C:Addr)(e:Value)(s':Shared):Prop:=
 ∃pins s₁ a,e=.ref a/\Inv X pins σ H₁ s₁/\
  ((∃h' vs,Heap.MadeExcOf s₁.heap h' a (.ref C) vs/\s'={ s₁ with heap:=h' })\/(∃G' H',Ft X.prog X.w X.stack H₁ s₁ a C H' s'/\Up G₁ H₁ G' H')\/∃G' H' L,X.env.frame=some L/\Dk X pins L H₁ s₁ a C H' s'/\Up G₁ H₁ G' H')
noncomputable def Fly(X:Cx)(σ:St)(G H:Hp)(C:Addr)(e:Value)(s':Shared):Prop:=∃G₁ H₁,Up G H G₁ H₁/\L8 X σ G₁ H₁ C e s'
def Fly.up{G1 H1:Hp}{e:Value}(u:Up G H G1 H1)(f:Fly X σ G1 H1 C e s'):Fly X σ G H C e s':=
 let⟨G2,H2,v,q⟩:=f;⟨G2,H2,u.trans v,q⟩
section
variable{α β:Type}
noncomputable def Fin(G H:Hp)(rep:Hp->β->α->Prop)(Q:β->Hp->Prop):α->Prop:=λd=>∀v G' H',Up G H G' H'->rep G' v d->Q v H'
noncomputable def Exx(X:Cx)(σ:St)(G H:Hp):Addr->Prop:=λC=>∀e s',Fly X σ G H C e s'->X.xe e s'
def Fin.up{G1 H1:Hp}{rep:Hp->β->α->Prop}{Q:β->Hp->Prop}{d:α}(u:Up G H G1 H1)(h:Fin G H rep Q d):Fin G1 H1 rep Q d:=λv G' H' u' r=>h v G' H' (u.trans u') r
def Exx.up{G1 H1:Hp}(u:Up G H G1 H1)(h:Exx X σ G H C):Exx X σ G1 H1 C:=λe s' f=>h e s' (f.up u)
def pF{G1 H1:Hp}{rep:Hp->β->α->Prop}{Q:β->Hp->Prop}{m:R α}(u:Up G H G1 H1)(h:m.post (Fin G H rep Q) (Exx X σ G H)):m.post (Fin G1 H1 rep Q) (Exx X σ G1 H1):=
 h.mono (λ_=>Fin.up u) λ_=>Exx.up u
noncomputable def tG(X:Cx)(rep:Hp->β->α->Prop)(g:Ev->R α):St->Hp->(β->Hp->Prop)->Prop:=λσ H Q=>∃G ρ,StE X.K G H σ ρ/\(g ρ).post (Fin G H rep Q) (Exx X σ G H)
def tG.intro{γ δ:Type}{ρ:Ev}{rep:Hp->β->α->Prop}{rep':Hp->δ->γ->Prop}{g:Ev->R α}{k:α->R γ}{Q:β->Hp->Prop}{Q':δ->Hp->Prop}(st:StE X.K G H σ ρ)(h:(g ρ>>=k).post (Fin G H rep' Q') (Exx X σ G H))(hk:∀a,∀v G1 H1,Up G H G1 H1->StE X.K G1 H1 σ ρ->rep G1 v a->(k a).post (Fin G1 H1 rep' Q') (Exx X σ G1 H1)->Q v H1):tG X rep g σ H Q:=by
 refine⟨G,ρ,st,?_⟩;cases e:g ρ with
 |ok a=>rw[e]at h;exact λv G' H' u r=>hk a v G' H' u (st.up u) r (pF u h)
 |ex C=>rw[e]at h;exact h
 |no=>rw[e]at h;exact h
def tG.last{ρ:Ev}{rep:Hp->β->α->Prop}{g:Ev->R α}{Q:β->Hp->Prop}(st:StE X.K G H σ ρ)(h:(g ρ).post (Fin G H rep Q) (Exx X σ G H)):tG X rep g σ H Q:=⟨G,ρ,st,h⟩
end
noncomputable abbrev tF(X:Cx)(g:Ev->R D):TE:=tG X (Rep X.K) g
noncomputable abbrev tTF(X:Cx)(g:Ev->R Bool):TT:=tG X (λ_ b c=>b=c) g
noncomputable abbrev tAF(X:Cx)(g:Ev->R (List D)):TA:=tG X (Reps X.K) g
noncomputable def PF(X:Cx)(e:Expr)(g:Ev->R D):Prop:=PE X e (tF X g)
noncomputable def PB(X:Cx)(e:Expr)(g:Ev->R Bool):Prop:=PT X e (tTF X g)
noncomputable def PBW(X:Cx)(e:Expr)(g:Ev->R Bool):Prop:=PW X e (tTF X g)
noncomputable def PFA(X:Cx)(es:List Expr)(g:Ev->R (List D)):Prop:=PA X es (tAF X g)
end L2
variable{d:L2.D}{ds:List L2.D}{ow:L2.ko}{ρ:L2.Ev}{gb ge:L2.Ev->L2.R L2.D}{gl gi:L2.Ev->L2.R (List L2.D)}{asg:L2.D->L2.Ev->L2.R L2.Ev}{gs:List (L2.Ev->L2.R L2.D)}{fs':List (Nat×L2.Fd)}{gr ad bC aU aG ba ah ae bu bV eW cf aO bh bM ao:List L2.D->L2.R L2.D}{key:L2.D->L2.R L2.D}{kv:List (Nat×L2.D)}
namespace L2
open PySem PySem.Spec PyProof.Rows
def rdV.ok{P:D->Prop}{E:Addr->Prop}(h:(rdV ρ i).post P E):∃d,ρ[i]?=some (some (.val d))/\P d:=by
 unfold rdV at h;split at h;·rename_i d e;exact⟨d,e,h⟩
 ·exact h.elim
section
variable{e a b c:Expr}{ga gc:Ev->R D}
def AB(i:Nat)(hN:X.N[i]?=some x:=by rfl)(hv:Vis X.env.scope x:=by first|exact Or.inl rfl|exact Or.inr (Or.inl rfl)|exact Or.inr (Or.inr rfl))(hd:(x==("__debug__":Str))=false:=by decide)(hcd:(x==("__classdict__":Str))=false:=by decide):PF X (.Name x pos) (λρ=>rdV ρ i):=by
 intro pins s σ H Q I h;obtain⟨G,ρ,st,h⟩:=h;refine dv hN hv hd hcd pins s σ H Q I ?_;obtain⟨d,e,q⟩:=rdV.ok h;obtain⟨v,e',r⟩:=st.val i d e;exact⟨v,e',q v G H (.refl st.sub) r⟩
def iU(h:PE X e (tC v))(hr:∀K G,Rep K G v d):PF X e (λ_=>.ok d):=by intro pins s σ H Q I q;obtain⟨G,ρ,st,q⟩:=q;exact h pins s σ H Q I (q v G H (.refl st.sub) (hr _ _))
def ay{i:Int}:PF X (.Constant (.int i) j pos) (λ_=>.ok (.int i)):=iU HJ λ_ _=>.int i
def kK{k:Bool}:PF X (.Constant (.bool k) j pos) (λ_=>.ok (.bl k)):=iU Lr λ_ _=>.bl k
def wm:PF X (.Constant .none j pos) (λ_=>.ok .non):=iU IX λ_ _=>.non
def bE{l:List Nat}(hl:x.cps.toList=l:=by rfl)(hz:l.length<=1000:=by decide):PF X (.Constant (.str x) j pos) (λ_=>.ok (.str l)):=
 iU HK λ_ _=>.strL hl (Nat.le_trans hz (by decide))
def dN{i:Int}{t:Tok}(hg:Gl X x)(hm:X.mg x=some (.int i t))(hd:(x==("__debug__":Str))=false:=by decide):PF X (.Name x pos) (λ_=>.ok (.int i)):=
 iU (pw (v:=.int i) hg hm ⟨t,rfl⟩ hd) λ_ _=>.int i
noncomputable def ROk(K:PySem.W.Frag)(r:R2)(f:D->D->Option D):Prop:=∀(G H:Hp)(x y:V)(dx dy d:D)(Q:VK),Same G H->Rep K G x dx->Rep K G y dy->f dx dy=some d->Fin G H (Rep K) Q d->r x y H Q
noncomputable def g2(f:D->D->Option D)(ga gb:Ev->R D):Ev->R D:=λρ=>ga ρ>>=λx=>gb ρ>>=λy=>ofO (f x y)
def C5{r:R2}{f:D->D->Option D}(hf:ROk X.K r f){Q:VK}(h:tF X (g2 f ga gb) σ H Q):tOp r (tF X ga) (tF X gb) σ H Q:=by obtain⟨G,ρ,st,h⟩:=h;refine tG.intro st h λx v G1 H1 u1 st1 r1 h1=>?_;refine tG.intro st1 h1 λy w G2 H2 u2 st2 r2 h2=>?_;obtain⟨d,e,q⟩:=ofO.ok h2;exact hf G2 H2 v w x y d Q st2.sub (r1.mono u2.gg) r2 e q
def tH{op:Operator}{r:R2}{f:D->D->Option D}(ho:OpR X (binaryOp op) r)(hf:ROk X.K r f)(ha:PF X a ga)(hb:PF X b gb):PF X (.BinOp a op b pos) (g2 f ga gb):=
 λpins s σ H Q I h=>LW ho ha hb pins s σ H Q I (C5 hf h)
def Dg{op:CmpOp}{r:R2}{f:D->D->Option D}(ho:OpR X (compareOp op) r)(hf:ROk X.K r f)(ha:PF X a ga)(hb:PF X b gb)(hm:behindInMarks op b=false):PF X (.Compare a [op] [b] pos) (g2 f ga gb):=
 λpins s σ H Q I h=>EN ho ha hb hm pins s σ H Q I (C5 hf h)
noncomputable def g3(f f':D->D->Option D)(ga gb gc:Ev->R D):Ev->R D:=λρ=>ga ρ>>=λx=>gb ρ>>=λy=>ofO (f x y)>>=λz=>match z with
 |.bl true=>gc ρ>>=λw=>ofO (f' y w)
 |.bl false=>.ok (.bl false)
 |_=>.no
def CY{op op':CmpOp}{r r':R2}{f f':D->D->Option D}(ho:OpR X (compareOp op) r)(ho':OpR X (compareOp op') r')(hf:ROk X.K r f)(hf':ROk X.K r' f')(ha:PF X a ga)(hb:PF X b gb)(hc:PF X c gc)(hm:lastMarks [op,op'] [b,c]=false:=by with_unfolding_all rfl):PF X (.Compare a [op,op'] [b,c] pos) (g3 f f' ga gb gc):=by
 intro pins s σ H Q I h;refine BO ho ho' ha hb hc hm pins s σ H Q I ?_;obtain⟨G,ρ,st,h⟩:=h;refine tG.intro st h λx v G1 H1 u1 st1 r1 h1=>?_;refine tG.intro st1 h1 λy w G2 H2 u2 st2 r2 h2=>?_;cases e:f x y with
 |none=>rw[e]at h2;exact h2.elim
 |some d=>
  rw[e]at h2;refine hf G2 H2 v w x y d _ st2.sub (r1.mono u2.gg) r2 e λz G3 H3 u3 r3=>?_;have h3:=pF u3 h2;have st3:=st2.up u3;cases r3 with
  |bl k=>
   refine⟨k,rfl,?_⟩;cases k with
   |false=>rw[if_neg Bool.false_ne_true];exact h3 _ G3 H3 (.refl st3.sub) (.bl false)
   |true=>rw[if_pos rfl];refine tG.intro st3 (show(gc ρ>>=λw=>ofO (f' y w)).post _ _ from h3) λq vq G4 H4 u4 st4 r4 h4=>?_;obtain⟨d,e',q'⟩:=ofO.ok h4;exact hf' G4 H4 w vq y q d Q st4.sub ((r2.mono u3.gg).mono u4.gg) r4 e' q'
  |_=>exact h3.elim
end
section
noncomputable def dh:D->D->Option D
 |.int i,.int j=>some (.int (i+j))
 |.str x,.str y=>if x.length+y.length<=sizeLine then some (.str (x++y))else none
 |.lst false xs,.lst false ys=>if xs.length+ys.length<=sizeLine then some (.lst false (xs++ys))else none
 |.tup xs,.tup ys=>if xs.length+ys.length<=sizeLine then some (.tup (xs++ys))else none
 |_,_=>none
noncomputable def D2(K:PySem.W.Frag):R2:=λx y H Q=>∃a b xs ys,x=.ref a/\y=.ref b/\SqT K H a xs/\SqT K H b ys/\xs.length+ys.length<=sizeLine/\
 (xs=[]->Q (.ref b) H)/\(xs≠[]->ys=[]->Q (.ref a) H)/\(xs≠[]->ys≠[]->∀p,H p=none->Q (.ref p) (upd H p (.tup (xs++ys))))
def A0:OpR X (binaryOp .Add) (D2 X.K):=by
 intro pins s σ H x y v u Q I rx ry h;obtain⟨a,b,xs,ys,rfl,rfl,ha,hb,hz,q0,q1,q2⟩:=h;by_cases hx:xs=[]
 ·cases rx;cases ry;obtain⟨its,r1,p1,_⟩:=I.tuple ha;obtain⟨its2,r2,p2,_⟩:=I.tuple hb;have hi:its=[]:=r1.nil_iff.mpr hx;obtain⟨⟨cls,dd,data,sl⟩,ho,hc,n,hd⟩:=id p1;obtain⟨⟨cls2,dd2,data2,sl2⟩,ho2,hc2,n2,hd2⟩:=id p2;simp only at hc hd hc2 hd2;subst hc hd hc2 hd2;exact concat_meets ⟨_,ho,rfl⟩ ⟨_,ho2,rfl⟩ noFill_tuple_add seq_tuple_add PySem.F.slot_tuple_add PySem.F.entry_tuple_add (PySem.F.args_tuple_add_2 _ _)
   (tuple_addW0 a b its.toArray its2.toArray n n2 dd dd2 sl sl2 (by simp[hi])) ⟨ho,ho2,.ref b,H,I,rfl,q0 hx⟩
 ·exact Fg pins s σ H _ _ v u Q I rx ry ⟨a,b,xs,ys,rfl,rfl,ha,hb,hx,hz,q1 hx,q2 hx⟩
noncomputable def JD(K:PySem.W.Frag):R2:=λx y H Q=>(rI0 λi j=>.int (i+j)) x y H Q\/(∃i j,x=.str i/\y=.str j/\i.length+j.length<=sizeLine/\Q (.str (i++j)) H)\/Me x y H Q\/D2 K x y H Q
def FZ:OpR X (binaryOp .Add) (JD X.K):=op_add.or (op_add_str.or (op_cat.or A0))
def Str.app_list(x y:Str):(x++y).cps.toList=x.cps.toList++y.cps.toList:=by show(x.cps++y.cps).toList=_;simp
def Str.len_list(x:Str):x.cps.toList.length=x.length:=by simp[Str.length]
def JI(K:PySem.W.Frag):ROk K (JD K) dh:=by
 intro G H x y dx dy d Q s rx ry e q;unfold dh at e;split at e;·cases e;exact .inl ⟨_,_,rx.int_inv,ry.int_inv,q _ G H (.refl s) (.int _)⟩
 ·split at e;·rename_i hz;cases e;obtain⟨i,rfl,ei,hi⟩:=rx.str_inv;obtain⟨j,rfl,ej,hj⟩:=ry.str_inv;subst ei ej;rw[Str.len_list,Str.len_list]at hz;exact .inr (.inl ⟨i,j,rfl,rfl,hz,q _ G H (.refl s) (.strL (Str.app_list i j) (by rw[List.length_append,Str.len_list,Str.len_list];exact hz))⟩)
  ·cases e
 ·split at e;·rename_i hz;cases e;obtain⟨a,vs,rfl,ha,ra⟩:=rx.lst_inv;obtain⟨b,ws,rfl,hb,rb⟩:=ry.lst_inv;refine .inr (.inr (.inl ⟨a,b,vs,ws,rfl,rfl,s _ _ ha,s _ _ hb,by rw[ra.length,rb.length];exact hz,λp hp=>q _ _ _ (.new s hp) (.lst aS ?_)⟩));exact(ra.append rb).mono (.into (s.free hp))
  ·cases e
 ·split at e
  ·rename_i hz;cases e;obtain⟨a,vs,rfl,ha,ra⟩:=rx.tup_inv;obtain⟨b,ws,rfl,hb,rb⟩:=ry.tup_inv;refine .inr (.inr (.inr ⟨a,b,vs,ws,rfl,rfl,ha.mono s,hb.mono s,by rw[ra.length,rb.length];exact hz,λz=>?_,λ_ z=>?_,λ_ _ p hp=>?_⟩));·subst z;cases ra;exact q _ G H (.refl s) (.tup hb rb)
   ·subst z;cases rb;rw[List.append_nil]at q;exact q _ G H (.refl s) (.tup ha ra)
   ·exact q _ _ _ (.new s hp) (.tup (.of aS) ((ra.append rb).mono (.into (s.free hp))))
  ·cases e
 ·cases e
def cb{a b:Expr}{ga:Ev->R D}(ha:PF X a ga)(hb:PF X b gb):PF X (.BinOp a .Add b pos) (g2 dh ga gb):=tH FZ (JI _) ha hb
noncomputable def qO:D->D->Option D
 |.int i,.int j=>some (.int (i - j))
 |_,_=>none
def lf{a b:Expr}{ga:Ev->R D}(ha:PF X a ga)(hb:PF X b gb):PF X (.BinOp a .Sub b pos) (g2 qO ga gb):=tH GR (by
 intro G H x y dx dy d Q s rx ry e q;unfold qO at e;split at e;·cases e;exact⟨_,_,rx.int_inv,ry.int_inv,q _ G H (.refl s) (.int _)⟩
 ·cases e) ha hb
noncomputable def Cz:D->D->Option D
 |.int i,.int j=>if 0<j/\j<1073741824 then some (.int (i / j))else none
 |_,_=>none
def Ff{a b:Expr}{ga:Ev->R D}(ha:PF X a ga)(hb:PF X b gb):PF X (.BinOp a .FloorDiv b pos) (g2 Cz ga gb):=tH Fq (by
 intro G H x y dx dy d Q s rx ry e q;unfold Cz at e;split at e
 ·split at e;·rename_i hc;cases e;exact⟨_,_,rx.int_inv,ry.int_inv,hc,q _ G H (.refl s) (.int _)⟩
  ·cases e
 ·cases e) ha hb
noncomputable def Ai:D->D->Option D
 |.int i,.int j=>if 0<j then some (.int (i % j))else none
 |_,_=>none
def vG{a b:Expr}{ga:Ev->R D}(ha:PF X a ga)(hb:PF X b gb):PF X (.BinOp a .Mod b pos) (g2 Ai ga gb):=tH JB (by
 intro G H x y dx dy d Q s rx ry e q;unfold Ai at e;split at e
 ·split at e;·rename_i hc;cases e;exact⟨_,_,rx.int_inv,ry.int_inv,hc,q _ G H (.refl s) (.int _)⟩
  ·cases e
 ·cases e) ha hb
end
section
variable{a b c e:Expr}{ga gc:Ev->R D}
noncomputable def leD:D->D->Option D
 |.int i,.int j=>some (.bl (decide (i<=j)))
 |.str x,.str y=>some (.bl (!decide (y<x)))
 |_,_=>none
noncomputable def ltD:D->D->Option D
 |.int i,.int j=>some (.bl (decide (i<j)))
 |.str x,.str y=>some (.bl (decide (x<y)))
 |_,_=>none
noncomputable def gtD:D->D->Option D
 |.int i,.int j=>some (.bl (decide (j<i)))
 |_,_=>none
noncomputable def geD:D->D->Option D
 |.int i,.int j=>some (.bl (decide (j<=i)))
 |_,_=>none
def xZ:OpR X (compareOp .LtE) (λx y H Q=>∃i j:Str,x=.str i/\y=.str j/\Q (.bl (!decide (j.cps.toList<i.cps.toList))) H):=by intro pins s σ H x y v u Q I rx ry h;obtain⟨i,j,rfl,rfl,q⟩:=h;obtain⟨t,rfl⟩:=rx;obtain⟨t',rfl⟩:=ry;exact PySem.P.le_str (zw I q rfl)
def uL(K:PySem.W.Frag):ROk K (λx y H Q=>(rI0 λi j=>.bl (decide (i<=j))) x y H Q\/∃i j:Str,x=.str i/\y=.str j/\Q (.bl (!decide (j.cps.toList<i.cps.toList))) H) leD:=by
 intro G H x y dx dy d Q s rx ry e q;unfold leD at e;split at e;·cases e;exact .inl ⟨_,_,rx.int_inv,ry.int_inv,q _ G H (.refl s) (.bl _)⟩
 ·cases e;obtain⟨i,rfl,ei,hi⟩:=rx.str_inv;obtain⟨j,rfl,ej,hj⟩:=ry.str_inv;subst ei ej;exact .inr ⟨i,j,rfl,rfl,q _ G H (.refl s) (.bl _)⟩
 ·cases e
def IZ(K:PySem.W.Frag):ROk K (λx y H Q=>(rI0 λi j=>.bl (decide (i<j))) x y H Q\/∃i j:Str,x=.str i/\y=.str j/\Q (.bl (decide (i.cps.toList<j.cps.toList))) H) ltD:=by
 intro G H x y dx dy d Q s rx ry e q;unfold ltD at e;split at e;·cases e;exact .inl ⟨_,_,rx.int_inv,ry.int_inv,q _ G H (.refl s) (.bl _)⟩
 ·cases e;obtain⟨i,rfl,ei,hi⟩:=rx.str_inv;obtain⟨j,rfl,ej,hj⟩:=ry.str_inv;subst ei ej;exact .inr ⟨i,j,rfl,rfl,q _ G H (.refl s) (.bl _)⟩
 ·cases e
def Kv(K:PySem.W.Frag):ROk K (rI0 λi j=>.bl (decide (j<i))) gtD:=by
 intro G H x y dx dy d Q s rx ry e q;unfold gtD at e;split at e;·cases e;exact⟨_,_,rx.int_inv,ry.int_inv,q _ G H (.refl s) (.bl _)⟩
 ·cases e
def lX:OpR X (compareOp .LtE) (λx y H Q=>(rI0 λi j=>.bl (decide (i<=j))) x y H Q\/∃i j:Str,x=.str i/\y=.str j/\Q (.bl (!decide (j.cps.toList<i.cps.toList))) H):=op_le.or xZ
def DM:OpR X (compareOp .Lt) (λx y H Q=>(rI0 λi j=>.bl (decide (i<j))) x y H Q\/∃i j:Str,x=.str i/\y=.str j/\Q (.bl (decide (i.cps.toList<j.cps.toList))) H):=op_lt.or Ac
def KQ(ha:PF X a ga)(hb:PF X b gb):PF X (.Compare a [.LtE] [b] pos) (g2 leD ga gb):=Dg lX (uL _) ha hb (kZ _)
def uN(ha:PF X a ga)(hb:PF X b gb)(hc:PF X c gc)(hm:lastMarks [.LtE,.LtE] [b,c]=false:=by with_unfolding_all rfl):PF X (.Compare a [.LtE,.LtE] [b,c] pos) (g3 leD leD ga gb gc):=CY lX lX (uL _) (uL _) ha hb hc hm
end
noncomputable def eqZ(f:D->D->Option Bool):List D->List D->Option (List Bool)
 |x::xs,y::ys=>(f x y).bind λb=>(eqZ f xs ys).map (b::·)
 |_,_=>some []
noncomputable def eqD:Nat->D->D->Option Bool
 | 0,_,_=>none
 |n+1,a,b=>match a,b with
  |.non,.non=>some true
  |.bl x,.bl y=>some (x==y)
  |.int i,.int j=>some (i==j)
  |.str x,.str y=>some (x==y)
  |.bl x,.int j=>some ((if x then 1 else 0)==j)
  |.int i,.bl y=>some (i==(if y then 1 else 0))
  |.lst _ xs,.lst _ ys=>if xs.length=ys.length then (eqZ (eqD n) xs ys).map λbs=>bs.all id else some false
  |.tup xs,.tup ys=>(eqZ (eqD n) xs ys).map λbs=>bs.all id && xs.length==ys.length
  |.exc _,_=>none
  |.dct _ _,_=>none
  |_,.exc _=>none
  |_,.dct _ _=>none
  |_,_=>some false
def eqZ.get{f:D->D->Option Bool}:∀{xs ys:List D}{bs:List Bool},eqZ f xs ys=some bs->bs.length=min xs.length ys.length/\∀(j:Nat)(x y:D),xs[j]?=some x->ys[j]?=some y->∃b,bs[j]?=some b/\f x y=some b
 | [],_,_,e=>by simp[eqZ]at e;subst e;exact⟨by simp,λj x y h=>by simp at h⟩
 |_::_,[],_,e=>by simp[eqZ]at e;subst e;exact⟨by simp,λj x y _ h=>by simp at h⟩
 |x::xs,y::ys,bs,e=>by
  unfold eqZ at e;cases e1:f x y with
  |none=>rw[e1]at e;cases e
  |some b=>
   rw[e1]at e;cases e2:eqZ f xs ys with
   |none=>rw[e2]at e;cases e
   |some cs=>
    rw[e2]at e;cases e;obtain⟨h1,h2⟩:=eqZ.get e2;refine⟨by simp[h1],λj=>?_⟩;cases j with
    |zero=>intro x' y' hx hy;simp at hx hy;subst hx hy;exact⟨b,rfl,e1⟩
    |succ j=>intro x' y' hx hy;exact h2 j x' y' (by simpa using hx) (by simpa using hy)
def mO{bs:List Bool}{n:Nat}(h:bs.length=n):(List.range n).all (λj=>bs.getD j true)=bs.all id:=by
 subst h;rw[Bool.eq_iff_iff,List.all_eq_true,List.all_eq_true];constructor;·intro h b hb;obtain⟨i,hi,rfl⟩:=List.mem_iff_getElem.mp hb;have:=h i (by simpa using hi);simpa[List.getD_eq_getElem?_getD,hi]using this
 ·intro h j hj;have hj':j<bs.length:=by simpa using hj
  have:=h bs[j] (List.getElem_mem hj');simpa[List.getD_eq_getElem?_getD,hj']using this
def eM:(Value.type "list":Value)≠.type "tuple":=by intro h;injection h with h;exact absurd h (by decide)
section
open SeqAt
def gQ(I:Inv X pins σ H s)(sub:Same G H):∀(n:Nat)(a b:D)(k:Bool)(x:V),eqD n a b=some k->Rep X.K G x a->Rep X.K G x b->k=true:=by
 intro n;induction n with
 |zero=>intro a b k x e;cases e
 |succ n ih=>
  have sq:∀(vs:List V)(xs ys:List D),Reps X.K G vs xs->Reps X.K G vs ys->∀bs,eqZ (eqD n) xs ys=some bs->bs.all id=true:=by
   intro vs;induction vs with
   |nil=>intro xs ys h1 h2 bs e;cases h1;cases h2;simp[eqZ]at e;subst e;rfl
   |cons v vs ihv=>
    intro xs ys h1 h2 bs e;cases h1 with
    |cons r1 t1=>
     cases h2 with
     |cons r2 t2=>
      unfold eqZ at e;rename_i d1 ds1 d2 ds2;cases e1:eqD n d1 d2 with
      |none=>rw[e1]at e;cases e
      |some b=>
       rw[e1]at e;cases e2:eqZ (eqD n) ds1 ds2 with
       |none=>rw[e2]at e;cases e
       |some cs=>rw[e2]at e;cases e;rw[List.all_cons,ih _ _ _ _ e1 r1 r2,ihv _ _ t1 t2 _ e2];rfl
  intro a b k x e ra rb;cases ra with
  |non=>cases rb;simp[eqD]at e;exact e
  |bl y=>cases rb;simp[eqD]at e;exact e
  |int i=>cases rb;simp[eqD]at e;exact e
  |str y h=>
   cases rb with
   |str z h'=>simp[eqD]at e;exact e
  |tup h r=>
   cases rb with
   |tup h' r'=>
    have q:=I.tuple_inj (h.mono sub) (h'.mono sub);subst q;simp only[eqD]at e;rename_i ds es;cases e2:eqZ (eqD n) ds es with
    |none=>rw[e2]at e;cases e
    |some cs=>rw[e2]at e;have this:(cs.all id && ds.length==es.length)=k:=Option.some.inj e;rw[sq _ _ _ r r' _ e2,Bool.true_and]at this;rw[<- this,<- r.length,<- r'.length];simp
   |lst h' r'=>obtain⟨its,_,⟨o,e1,c1,_⟩,_⟩:=I.tuple (h.mono sub);obtain⟨_,its',n',_,e2⟩:=I.hok _ _ (sub _ _ h');rw[e1]at e2;cases e2;exact absurd c1 eM
   |fls h' r'=>obtain⟨its,_,⟨o,e1,c1,_⟩,_⟩:=I.tuple (h.mono sub);obtain⟨its',_,⟨o',n',e2,c2,_⟩,_⟩:=I.list (h'.mono sub);rw[e1]at e2;cases e2;rw[c1]at c2;exact absurd c2.symm eM
   |exc h'=>simp[eqD]at e
   |dct _ _ _=>simp[eqD]at e
  |lst h r=>
   have hl:SqL X.K G _ _:=SqL.of h;cases rb with
   |tup h' r'=>obtain⟨its,_,⟨o,e1,c1,_⟩,_⟩:=I.tuple (h'.mono sub);obtain⟨_,its',n',_,e2⟩:=I.hok _ _ (sub _ _ h);rw[e1]at e2;cases e2;exact absurd c1 eM
   |lst h' r'=>
    rw[h]at h';cases h';simp only[eqD]at e;rw[if_pos (by rw[<- r.length,<- r'.length])]at e;rename_i ds es;cases e2:eqZ (eqD n) ds es with
    |none=>rw[e2]at e;cases e
    |some cs=>rw[e2]at e;have:=Option.some.inj e;rw[<- this];exact sq _ _ _ r r' _ e2
   |fls h' r'=>
    have q:=I.list_inj (hl.mono sub) (h'.mono sub);subst q;simp only[eqD]at e;rw[if_pos (by rw[<- r.length,<- r'.length])]at e;rename_i ds es;cases e2:eqZ (eqD n) ds es with
    |none=>rw[e2]at e;cases e
    |some cs=>rw[e2]at e;have:=Option.some.inj e;rw[<- this];exact sq _ _ _ r r' _ e2
   |exc h'=>simp[eqD]at e
   |dct _ _ _=>simp[eqD]at e
  |fls h r=>
   cases rb with
   |tup h' r'=>obtain⟨its,_,⟨o,e1,c1,_⟩,_⟩:=I.tuple (h'.mono sub);obtain⟨its',_,⟨o',n',e2,c2,_⟩,_⟩:=I.list (h.mono sub);rw[e1]at e2;cases e2;rw[c1]at c2;exact absurd c2.symm eM
   |lst h' r'=>
    have q:=I.list_inj (h.mono sub) ((SqL.of h':SqL X.K G _ _).mono sub);subst q;simp only[eqD]at e;rw[if_pos (by rw[<- r.length,<- r'.length])]at e;rename_i ds es;cases e2:eqZ (eqD n) ds es with
    |none=>rw[e2]at e;cases e
    |some cs=>rw[e2]at e;have:=Option.some.inj e;rw[<- this];exact sq _ _ _ r r' _ e2
   |fls h' r'=>
    have q:=I.list_inj (h.mono sub) (h'.mono sub);subst q;simp only[eqD]at e;rw[if_pos (by rw[<- r.length,<- r'.length])]at e;rename_i ds es;cases e2:eqZ (eqD n) ds es with
    |none=>rw[e2]at e;cases e
    |some cs=>rw[e2]at e;have:=Option.some.inj e;rw[<- this];exact sq _ _ _ r r' _ e2
   |exc h'=>simp[eqD]at e
   |dct _ _ _=>simp[eqD]at e
  |exc h=>simp[eqD]at e
  |dct _ _ _=>simp[eqD]at e
structure Eqs(A:Around)(s:Shared)(v u:Value)(k:Bool):Prop where
 eq:EqAt A s v u k
 rc:RcAt A s v u k
 ne:RcNeAt A s v u (!k)
def jC{f:Bool}{x:V}(I:Inv X pins σ H s)(sub:Same G H)(r:Rep X.K G x (.lst f ds))(ru:RelV x u):∃a its vs,u=.ref a/\s.heap.IsList a (List.toArray its)/\Vals vs its/\Reps X.K G vs ds:=by obtain⟨a,vs,rfl,h,t⟩:=r.seq_inv;cases ru;obtain⟨its,rv,⟨o,n,e1,c1,_,d1⟩,_⟩:=I.list (h.mono sub);exact⟨a,its,vs,rfl,⟨o,e1,c1,n,d1⟩,rv,t⟩
def mh{x:V}(I:Inv X pins σ H s)(sub:Same G H)(r:Rep X.K G x (.tup ds))(ru:RelV x u):∃a its vs,u=.ref a/\s.heap.IsTuple a (List.toArray its)/\Vals vs its/\Reps X.K G vs ds:=by obtain⟨a,vs,rfl,h,t⟩:=r.tup_inv;cases ru;obtain⟨its,rv,p,_⟩:=I.tuple (h.mono sub);exact⟨a,its,vs,rfl,p,rv,t⟩
def yG(I:Inv X pins σ H s)(sub:Same G H):∀(n:Nat)(A:Around)(a b:D)(k:Bool)(x y:V)(v u:Value),A.units+n<cLine->eqD n a b=some k->Rep X.K G x a->Rep X.K G y b->RelV x v->RelV y u->Eqs A s v u k:=by
 intro n;induction n with
 |zero=>intro A a b k x y v u _ e;cases e
 |succ n ih=>
  have sq:∀(A:Around)(vs ws:List V)(xs ys:List D)(is js:List Value)(bs:List Bool),A.units+(n+1)<cLine->Reps X.K G vs xs->Reps X.K G ws ys->Vals vs is->Vals ws js->eqZ (eqD n) xs ys=some bs->
    bs.length=min is.length js.length/\∀j (h1:j<is.toArray.size) (h2:j<js.toArray.size),EqAt A.in1 s is.toArray[j] js.toArray[j] (bs.getD j true):=by
   intro A vs ws xs ys is js bs hA r1 r2 v1 v2 e;obtain⟨h1,h2⟩:=eqZ.get e;refine⟨by rw[h1,<- r1.length,<- r2.length,v1.length,v2.length],λj q1 q2=>?_⟩;rw[List.size_toArray]at q1 q2;have p1:j<xs.length:=by rw[<- r1.length,v1.length];exact q1
   have p2:j<ys.length:=by rw[<- r2.length,v2.length];exact q2
   obtain⟨b,e1,e2⟩:=h2 j xs[j] ys[j] (by simp[p1]) (by simp[p2]);obtain⟨x',ex,rx⟩:=r1.get (i:=j) (d:=xs[j]) (by simp[p1]);obtain⟨y',ey,ry⟩:=r2.get (i:=j) (d:=ys[j]) (by simp[p2]);obtain⟨u1,eu1,ru1⟩:=v1.get ex;obtain⟨u2,eu2,ru2⟩:=v2.get ey;have g1:is.toArray[j]=u1:=by simpa[q1]using eu1
   have g2:js.toArray[j]=u2:=by simpa[q2]using eu2
   rw[List.getD_eq_getElem?_getD,e1];simp only[List.getElem_toArray]at g1 g2⊢;rw[g1,g2];exact(ih A.in1 _ _ b x' y' u1 u2 (by show A.units+1+n<cLine;omega) e2 rx ry ru1 ru2).eq
  intro A a b k x y v u hA e ra rb rv ru;have hu:A.units<cLine:=by omega
  have same:∀c d:Addr,v=.ref c->u=.ref d->c=d->k=true:=λc d h1 h2 h3=>by
   subst h1 h2 h3;cases ra with
   |tup h r=>cases rv;cases rb with
    |tup h' r'=>cases ru;exact gQ I sub (n+1) _ _ k _ e (.tup h r) (.tup h' r')
    |lst h' r'=>cases ru;exact gQ I sub (n+1) _ _ k _ e (.tup h r) (.lst h' r')
    |fls h' r'=>cases ru;exact gQ I sub (n+1) _ _ k _ e (.tup h r) (.fls h' r')
    |exc h'=>simp[eqD]at e
    |dct _ _ _=>simp[eqD]at e
    |str _ _=>obtain⟨t,z⟩:=ru;cases z
    |int _=>obtain⟨t,z⟩:=ru;cases z
    |non=>cases ru
    |bl _=>cases ru
   |lst h r=>cases rv;cases rb with
    |tup h' r'=>cases ru;exact gQ I sub (n+1) _ _ k _ e (.lst h r) (.tup h' r')
    |lst h' r'=>cases ru;exact gQ I sub (n+1) _ _ k _ e (.lst h r) (.lst h' r')
    |fls h' r'=>cases ru;exact gQ I sub (n+1) _ _ k _ e (.lst h r) (.fls h' r')
    |exc h'=>simp[eqD]at e
    |dct _ _ _=>simp[eqD]at e
    |str _ _=>obtain⟨t,z⟩:=ru;cases z
    |int _=>obtain⟨t,z⟩:=ru;cases z
    |non=>cases ru
    |bl _=>cases ru
   |fls h r=>cases rv;cases rb with
    |tup h' r'=>cases ru;exact gQ I sub (n+1) _ _ k _ e (.fls h r) (.tup h' r')
    |lst h' r'=>cases ru;exact gQ I sub (n+1) _ _ k _ e (.fls h r) (.lst h' r')
    |fls h' r'=>cases ru;exact gQ I sub (n+1) _ _ k _ e (.fls h r) (.fls h' r')
    |exc h'=>simp[eqD]at e
    |dct _ _ _=>simp[eqD]at e
    |str _ _=>obtain⟨t,z⟩:=ru;cases z
    |int _=>obtain⟨t,z⟩:=ru;cases z
    |non=>cases ru
    |bl _=>cases ru
   |exc h=>simp[eqD]at e
   |dct _ _ _=>simp[eqD]at e
   |str _ _=>obtain⟨t,z⟩:=rv;cases z
   |int _=>obtain⟨t,z⟩:=rv;cases z
   |non=>cases rv
   |bl _=>cases rv
  have refs:∀c d:Addr,v=.ref c->u=.ref d->RcAt A s v u k->EqAt A s v u k:=λc d h1 h2 h=>by
   subst h1 h2;by_cases h3:c=d;·have:=same c d rfl rfl h3;subst h3 this;exact EqAt.same _
   ·exact EqAt.of_refs h3 h
  cases a with
  |exc C=>simp[eqD]at e
  |dct _ _=>simp[eqD]at e
  |non=>
   obtain rfl:=ra.non_inv;cases rv;cases b with
   |exc C=>simp[eqD]at e
   |dct _ _=>simp[eqD]at e
   |non=>obtain rfl:=rb.non_inv;cases ru;simp[eqD]at e;subst e;exact⟨EqAt.same _,RcAt.none_none,RcNeAt.none_none⟩
   |bl z=>obtain rfl:=rb.bl_inv;cases ru;simp[eqD]at e;subst e;exact⟨EqAt.none_bool _,RcAt.none_bool _,RcNeAt.none_bool _⟩
   |int z=>obtain rfl:=rb.int_inv;obtain⟨t,rfl⟩:=ru;simp[eqD]at e;subst e;exact⟨EqAt.none_int _ _,RcAt.none_int _ _,RcNeAt.none_int _ _⟩
   |str z=>obtain⟨z,rfl,-,-⟩:=rb.str_inv;obtain⟨t,rfl⟩:=ru;simp[eqD]at e;subst e;exact⟨EqAt.none_str _ _,RcAt.none_str _ _,RcNeAt.none_str _ _⟩
   |tup ds=>obtain⟨c,its,vs,rfl,p,_,_⟩:=mh I sub rb ru;simp[eqD]at e;subst e;exact⟨EqAt.none_tuple p hu,RcAt.none_tuple p hu,RcNeAt.none_tuple p hu⟩
   |lst f ds=>obtain⟨c,its,vs,rfl,p,_,_⟩:=jC I sub rb ru;simp[eqD]at e;subst e;exact⟨EqAt.none_list p hu,RcAt.none_list p hu,RcNeAt.none_list p hu⟩
  |bl w=>
   obtain rfl:=ra.bl_inv;cases rv;cases b with
   |exc C=>simp[eqD]at e
   |dct _ _=>simp[eqD]at e
   |non=>obtain rfl:=rb.non_inv;cases ru;simp[eqD]at e;subst e;exact⟨EqAt.bool_none _,RcAt.bool_none _,RcNeAt.bool_none _⟩
   |bl z=>obtain rfl:=rb.bl_inv;cases ru;simp only[eqD]at e;cases e;exact⟨EqAt.bool_bool _ _,RcAt.bool_bool _ _,RcNeAt.bool_bool _ _⟩
   |int z=>obtain rfl:=rb.int_inv;obtain⟨t,rfl⟩:=ru;simp only[eqD]at e;cases e;exact⟨EqAt.bool_int _ _ _,RcAt.bool_int _ _ _,RcNeAt.bool_int _ _ _⟩
   |str z=>obtain⟨z,rfl,-,-⟩:=rb.str_inv;obtain⟨t,rfl⟩:=ru;simp[eqD]at e;subst e;exact⟨EqAt.bool_str _ _ _,RcAt.bool_str _ _ _,RcNeAt.bool_str _ _ _⟩
   |tup ds=>obtain⟨c,its,vs,rfl,p,_,_⟩:=mh I sub rb ru;simp[eqD]at e;subst e;exact⟨EqAt.bool_tuple _ p hu,RcAt.bool_tuple _ p hu,RcNeAt.bool_tuple _ p hu⟩
   |lst f ds=>obtain⟨c,its,vs,rfl,p,_,_⟩:=jC I sub rb ru;simp[eqD]at e;subst e;exact⟨EqAt.bool_list _ p hu,RcAt.bool_list _ p hu,RcNeAt.bool_list _ p hu⟩
  |int w=>
   obtain rfl:=ra.int_inv;obtain⟨t0,rfl⟩:=rv;cases b with
   |exc C=>simp[eqD]at e
   |dct _ _=>simp[eqD]at e
   |non=>obtain rfl:=rb.non_inv;cases ru;simp[eqD]at e;subst e;exact⟨EqAt.int_none _ _,RcAt.int_none _ _,RcNeAt.int_none _ _⟩
   |bl z=>obtain rfl:=rb.bl_inv;cases ru;simp only[eqD]at e;cases e;exact⟨EqAt.int_bool _ _ _,RcAt.int_bool _ _ _,RcNeAt.int_bool _ _ _⟩
   |int z=>obtain rfl:=rb.int_inv;obtain⟨t,rfl⟩:=ru;simp only[eqD]at e;cases e;exact⟨EqAt.int_int _ _ _ _,RcAt.int_int _ _ _ _,RcNeAt.int_int _ _ _ _⟩
   |str z=>obtain⟨z,rfl,-,-⟩:=rb.str_inv;obtain⟨t,rfl⟩:=ru;simp[eqD]at e;subst e;exact⟨EqAt.int_str _ _ _ _,RcAt.int_str _ _ _ _,RcNeAt.int_str _ _ _ _⟩
   |tup ds=>obtain⟨c,its,vs,rfl,p,_,_⟩:=mh I sub rb ru;simp[eqD]at e;subst e;exact⟨EqAt.int_tuple _ _ p hu,RcAt.int_tuple _ _ p hu,RcNeAt.int_tuple _ _ p hu⟩
   |lst f ds=>obtain⟨c,its,vs,rfl,p,_,_⟩:=jC I sub rb ru;simp[eqD]at e;subst e;exact⟨EqAt.int_list _ _ p hu,RcAt.int_list _ _ p hu,RcNeAt.int_list _ _ p hu⟩
  |str w=>
   obtain⟨w,rfl,ew,-⟩:=ra.str_inv;obtain⟨t0,rfl⟩:=rv;cases b with
   |exc C=>simp[eqD]at e
   |dct _ _=>simp[eqD]at e
   |non=>obtain rfl:=rb.non_inv;cases ru;simp[eqD]at e;subst e;exact⟨EqAt.str_none _ _,RcAt.str_none _ _,RcNeAt.str_none _ _⟩
   |bl z=>obtain rfl:=rb.bl_inv;cases ru;simp[eqD]at e;subst e;exact⟨EqAt.str_bool _ _ _,RcAt.str_bool _ _ _,RcNeAt.str_bool _ _ _⟩
   |int z=>obtain rfl:=rb.int_inv;obtain⟨t,rfl⟩:=ru;simp[eqD]at e;subst e;exact⟨EqAt.str_int _ _ _ _,RcAt.str_int _ _ _ _,RcNeAt.str_int _ _ _ _⟩
   |str z=>obtain⟨z,rfl,ez,-⟩:=rb.str_inv;obtain⟨t,rfl⟩:=ru;simp only[eqD]at e;subst ew ez;rw[str_beq]at e;cases e;exact⟨EqAt.str_str _ _ _ _,RcAt.str_str _ _ _ _,RcNeAt.str_str _ _ _ _⟩
   |tup ds=>obtain⟨c,its,vs,rfl,p,_,_⟩:=mh I sub rb ru;simp[eqD]at e;subst e;exact⟨EqAt.str_tuple _ _ p hu,RcAt.str_tuple _ _ p hu,RcNeAt.str_tuple _ _ p hu⟩
   |lst f ds=>obtain⟨c,its,vs,rfl,p,_,_⟩:=jC I sub rb ru;simp[eqD]at e;subst e;exact⟨EqAt.str_list _ _ p hu,RcAt.str_list _ _ p hu,RcNeAt.str_list _ _ p hu⟩
  |tup ds1=>
   obtain⟨c1,its1,vs1,rfl,p1,w1,q1⟩:=mh I sub ra rv;cases b with
   |exc C=>simp[eqD]at e
   |dct _ _=>simp[eqD]at e
   |non=>obtain rfl:=rb.non_inv;cases ru;simp[eqD]at e;subst e;exact⟨EqAt.tuple_none p1 hu,RcAt.tuple_none p1 hu,RcNeAt.tuple_none p1 hu⟩
   |bl z=>obtain rfl:=rb.bl_inv;cases ru;simp[eqD]at e;subst e;exact⟨EqAt.tuple_bool _ p1 hu,RcAt.tuple_bool _ p1 hu,RcNeAt.tuple_bool _ p1 hu⟩
   |int z=>obtain rfl:=rb.int_inv;obtain⟨t,rfl⟩:=ru;simp[eqD]at e;subst e;exact⟨EqAt.tuple_int _ _ p1 hu,RcAt.tuple_int _ _ p1 hu,RcNeAt.tuple_int _ _ p1 hu⟩
   |str z=>obtain⟨z,rfl,-,-⟩:=rb.str_inv;obtain⟨t,rfl⟩:=ru;simp[eqD]at e;subst e;exact⟨EqAt.tuple_str _ _ p1 hu,RcAt.tuple_str _ _ p1 hu,RcNeAt.tuple_str _ _ p1 hu⟩
   |lst f ds=>obtain⟨c,its,vs,rfl,p,_,_⟩:=jC I sub rb ru;simp[eqD]at e;subst e;exact⟨EqAt.tuple_list p1 p hu,RcAt.tuple_list p1 p hu,RcNeAt.tuple_list p1 p hu⟩
   |tup ds2=>
    obtain⟨c2,its2,vs2,rfl,p2,w2,q2⟩:=mh I sub rb ru;simp only[eqD]at e;cases e2:eqZ (eqD n) ds1 ds2 with
    |none=>rw[e2]at e;cases e
    |some bs=>
     rw[e2]at e;have ek:=Option.some.inj e;obtain⟨hl,he⟩:=sq A _ _ _ _ _ _ bs hA q1 q2 w1 w2 e2;have e3:((List.range (min its1.toArray.size its2.toArray.size)).all (λj=>bs.getD j true) && its1.toArray.size==its2.toArray.size)=k:=by rw[<- ek,List.size_toArray,List.size_toArray,mO hl,<- w1.length,<- w2.length,q1.length,q2.length]
     have hrc:RcAt A s (.ref c1) (.ref c2) k:=by rw[<- e3];exact RcAt.tuples p1 p2 hu he
     have hne:RcNeAt A s (.ref c1) (.ref c2) (!k):=by rw[<- e3];exact RcNeAt.tuples p1 p2 hu he
     exact⟨refs _ _ rfl rfl hrc,hrc,hne⟩
  |lst f1 ds1=>
   obtain⟨c1,its1,vs1,rfl,p1,w1,q1⟩:=jC I sub ra rv;cases b with
   |exc C=>simp[eqD]at e
   |dct _ _=>simp[eqD]at e
   |non=>obtain rfl:=rb.non_inv;cases ru;simp[eqD]at e;subst e;exact⟨EqAt.list_none p1 hu,RcAt.list_none p1 hu,RcNeAt.list_none p1 hu⟩
   |bl z=>obtain rfl:=rb.bl_inv;cases ru;simp[eqD]at e;subst e;exact⟨EqAt.list_bool _ p1 hu,RcAt.list_bool _ p1 hu,RcNeAt.list_bool _ p1 hu⟩
   |int z=>obtain rfl:=rb.int_inv;obtain⟨t,rfl⟩:=ru;simp[eqD]at e;subst e;exact⟨EqAt.list_int _ _ p1 hu,RcAt.list_int _ _ p1 hu,RcNeAt.list_int _ _ p1 hu⟩
   |str z=>obtain⟨z,rfl,-,-⟩:=rb.str_inv;obtain⟨t,rfl⟩:=ru;simp[eqD]at e;subst e;exact⟨EqAt.list_str _ _ p1 hu,RcAt.list_str _ _ p1 hu,RcNeAt.list_str _ _ p1 hu⟩
   |tup ds=>obtain⟨c,its,vs,rfl,p,_,_⟩:=mh I sub rb ru;simp[eqD]at e;subst e;exact⟨EqAt.list_tuple p1 p hu,RcAt.list_tuple p1 p hu,RcNeAt.list_tuple p1 p hu⟩
   |lst f2 ds2=>
    obtain⟨c2,its2,vs2,rfl,p2,w2,q2⟩:=jC I sub rb ru;simp only[eqD]at e;by_cases hlen:ds1.length=ds2.length
    ·rw[if_pos hlen]at e;cases e2:eqZ (eqD n) ds1 ds2 with
     |none=>rw[e2]at e;cases e
     |some bs=>
      rw[e2]at e;have ek:=Option.some.inj e;obtain⟨hl,he⟩:=sq A _ _ _ _ _ _ bs hA q1 q2 w1 w2 e2;have hz:its1.toArray.size=its2.toArray.size:=by rw[List.size_toArray,List.size_toArray,<- w1.length,<- w2.length,q1.length,q2.length];exact hlen
      have e3:(List.range its1.toArray.size).all (λj=>bs.getD j true)=k:=by rw[<- ek,mO];rw[hl,List.size_toArray];simp only[List.size_toArray]at hz;omega
      have hrc:RcAt A s (.ref c1) (.ref c2) k:=by rw[<- e3];exact RcAt.lists p1 p2 hz hu he
      have hne:RcNeAt A s (.ref c1) (.ref c2) (!k):=by rw[<- e3];exact RcNeAt.lists p1 p2 hz hu he
      exact⟨refs _ _ rfl rfl hrc,hrc,hne⟩
    ·rw[if_neg hlen]at e;cases e;have hz:(its1.toArray.size != its2.toArray.size)=true:=by rw[List.size_toArray,List.size_toArray,<- w1.length,<- w2.length,q1.length,q2.length];simpa using hlen
     have hrc:RcAt A s (.ref c1) (.ref c2) false:=RcAt.lists_lengths p1 p2 hz hu;exact⟨refs _ _ rfl rfl hrc,hrc,RcNeAt.lists_lengths p1 p2 hz hu⟩
end
section
variable{a b:Expr}{ga:Ev->R D}
noncomputable def eqF(x y:D):Option D:=(eqD 40 x y).map .bl
noncomputable def neF(x y:D):Option D:=(eqD 40 x y).map λk=>.bl (!k)
noncomputable def J4(K:PySem.W.Frag)(neg:Bool):R2:=λx y H Q=>∃G dx dy k,Same G H/\Rep K G x dx/\Rep K G y dy/\eqD 40 dx dy=some k/\Q (.bl (if neg then !k else k)) H
def DV(hu:X.A.units+64<cLine):OpR X (compareOp .Eq) (J4 X.K false):=by intro pins s σ H x y v u Q I rx ry h;obtain⟨G,dx,dy,k,sub,r1,r2,e,q⟩:=h;exact(yG I sub 40 X.A dx dy k x y v u (by omega) e r1 r2 rx ry).rc _ _ _ _ ⟨.bl k,H,I,rfl,q⟩
def Iw(hu:X.A.units+64<cLine):OpR X (compareOp .NotEq) (J4 X.K true):=by intro pins s σ H x y v u Q I rx ry h;obtain⟨G,dx,dy,k,sub,r1,r2,e,q⟩:=h;exact(yG I sub 40 X.A dx dy k x y v u (by omega) e r1 r2 rx ry).ne _ _ _ _ ⟨.bl (!k),H,I,rfl,q⟩
def vi(hu:X.A.units+64<cLine)(ha:PF X a ga)(hb:PF X b gb):PF X (.Compare a [.Eq] [b] pos) (g2 eqF ga gb):=Dg (DV hu) (by
 intro G H x y dx dy d Q s rx ry e q;unfold eqF at e;cases e1:eqD 40 dx dy with
 |none=>rw[e1]at e;cases e
 |some k=>rw[e1]at e;cases e;exact⟨G,dx,dy,k,s,rx,ry,e1,q _ G H (.refl s) (.bl k)⟩) ha hb (kZ _)
end
end L2
namespace L2
open PySem PySem.Spec PyProof.Rows
section
variable{a b c e:Expr}{dj:List Expr}{ga gc:Ev->R D}{gt gu:Ev->R Bool}
noncomputable def isD:D->D->Option Bool
 |.non,.non=>some true
 |_,.non=>some false
 |.bl x,.bl y=>some (x==y)
 |_,_=>none
noncomputable def isF(x y:D):Option D:=(isD x y).map .bl
noncomputable def rIs(neg:Bool):R2:=λx y H Q=>(y=.non/\Q (.bl (if neg then !decide (x=.non)else decide (x=.non))) H)\/∃i j,x=.bl i/\y=.bl j/\Q (.bl (if neg then !(i==j)else (i==j))) H
def Iu:OpR X (compareOp .Is) (rIs false):=op_isN.or (r':=λx y H Q=>∃i j,x=.bl i/\y=.bl j/\Q (.bl (i==j)) H) (by intro pins s σ H x y v u Q I rx ry h;obtain⟨i,j,rfl,rfl,q⟩:=h;cases rx;cases ry;exact is_bool ⟨.bl _,H,I,rfl,q⟩)
def K2(K:PySem.W.Frag)(neg:Bool):ROk K (rIs neg) (λx y=>(isD x y).map λk=>.bl (if neg then !k else k)):=by
 intro G H x y dx dy d Q s rx ry e q;dsimp only at e;cases e1:isD dx dy with
 |none=>rw[e1]at e;cases e
 |some k=>
  rw[e1]at e;have ed:D.bl (if neg=true then !k else k)=d:=Option.some.inj e;subst ed;unfold isD at e1;split at e1;·cases e1;exact .inl ⟨ry.non_inv,by rw[rx.non_inv];exact q _ G H (.refl s) (.bl _)⟩
  ·rename_i hx;cases e1;have hn:x≠.non:=λz=>by subst z;cases rx;exact hx rfl
   refine .inl ⟨ry.non_inv,?_⟩;rw[decide_eq_false hn];exact q _ G H (.refl s) (.bl _)
  ·cases e1;exact .inr ⟨_,_,rx.bl_inv,ry.bl_inv,q _ G H (.refl s) (.bl _)⟩
  ·cases e1
noncomputable def asB:D->R Bool
 |.bl k=>.ok k
 |_=>.no
noncomputable def oq(ga gb:Ev->R D):Ev->R D:=λρ=>ga ρ>>=λx=>asB x>>=λk=>if k=true then gb ρ else .ok (.bl false)
noncomputable def gOr(ga gb:Ev->R D):Ev->R D:=λρ=>ga ρ>>=λx=>asB x>>=λk=>if k=true then .ok (.bl true)else gb ρ
noncomputable def K5(ga:Ev->R D):Ev->R D:=λρ=>ga ρ>>=λx=>asB x>>=λk=>.ok (.bl (!k))
def asB.ok{β:Type}{K:PySem.W.Frag}{k:Bool->R β}{P:β->Prop}{E:Addr->Prop}(r:Rep K G v d)(h:(asB d>>=k).post P E):∃c,v=.bl c/\d=.bl c/\(k c).post P E:=by
 cases r with
 |bl c=>exact⟨c,rfl,rfl,h⟩
 |_=>exact h.elim
def ji{op:BoolOp}(h:PF X a ga):PF X (.BoolOp op [a] pos) ga:=Gz h
def iw(ha:PF X a ga)(hb:PF X (.BoolOp .And (b::dj) pos) gb):PF X (.BoolOp .And (a::b::dj) pos) (oq ga gb):=by
 intro pins s σ H Q I h;refine Jr ha hb pins s σ H Q I ?_;obtain⟨G,ρ,st,h⟩:=h;refine tG.intro st h λx v G1 H1 u1 st1 r1 h1=>?_;obtain⟨c,ec,ed,h2⟩:=asB.ok r1 h1;subst ec ed;refine⟨c,rfl,?_⟩;cases c with
 |true=>rw[if_pos rfl]at h2⊢;exact tG.last st1 h2
 |false=>rw[if_neg Bool.false_ne_true]at h2⊢;exact h2 _ G1 H1 (.refl st1.sub) (.bl false)
def GB(ha:PF X a ga)(hb:PF X (.BoolOp .Or (b::dj) pos) gb):PF X (.BoolOp .Or (a::b::dj) pos) (gOr ga gb):=by
 intro pins s σ H Q I h;refine KT ha hb pins s σ H Q I ?_;obtain⟨G,ρ,st,h⟩:=h;refine tG.intro st h λx v G1 H1 u1 st1 r1 h1=>?_;obtain⟨c,ec,ed,h2⟩:=asB.ok r1 h1;subst ec ed;refine⟨c,rfl,?_⟩;cases c with
 |true=>rw[if_pos rfl]at h2⊢;exact h2 _ G1 H1 (.refl st1.sub) (.bl true)
 |false=>rw[if_neg Bool.false_ne_true]at h2⊢;exact tG.last st1 h2
def GJ(ha:PF X a ga):PF X (.UnaryOp .Not a pos) (K5 ga):=by intro pins s σ H Q I h;refine Jd ha pins s σ H Q I ?_;obtain⟨G,ρ,st,h⟩:=h;refine tG.intro st h λx v G1 H1 u1 st1 r1 h1=>?_;obtain⟨c,ec,ed,h2⟩:=asB.ok r1 h1;subst ec ed;exact⟨c,rfl,h2 _ G1 H1 (.refl st1.sub) (.bl _)⟩
noncomputable def ox:D->R D
 |.int i=>.ok (.int (-i))
 |_=>.no
def Jq(ha:PF X a ga):PF X (.UnaryOp .USub a pos) (λρ=>ga ρ>>=ox):=by
 intro pins s σ H Q I h;refine La HY ha pins s σ H Q I ?_;obtain⟨G,ρ,st,h⟩:=h;refine tG.intro st h λx v G1 H1 u1 st1 r1 h1=>?_;cases r1 with
 |int i=>exact⟨i,rfl,h1 _ G1 H1 (.refl st1.sub) (.int _)⟩
 |_=>exact h1.elim
noncomputable def jU:D->R Bool
 |.non=>.ok false
 |.bl k=>.ok k
 |.int i=>.ok (i != 0)
 |.str x=>.ok (!x.isEmpty)
 |.tup xs=>.ok (!xs.isEmpty)
 |.lst _ xs=>.ok (!xs.isEmpty)
 |.exc _=>.no
 |.dct _ _=>.no
def Reps.isEmpty{K:PySem.W.Frag}(r:Reps K G vs ds):vs.isEmpty=ds.isEmpty:=by cases r <;> rfl
def zy(h:PF X e ga)(he:∀whole,isTrue e X.env whole=(do let v <- whole;standAt e.pos;holding [v] (truthy v)):=by intro _;rfl):PB X e (λρ=>ga ρ>>=jU):=by
 intro pins s σ H Q I hq;refine CJ h he pins s σ H Q I ?_;obtain⟨G,ρ,st,hq⟩:=hq;refine tG.intro st hq λx v G1 H1 u1 st1 r1 h1=>?_;have fin:∀k,jU x=.ok k->Q k H1:=λk ek=>by rw[ek]at h1;exact h1 k G1 H1 (.refl st1.sub) rfl
 cases r1 with
 |non=>exact⟨_,rfl,fin _ rfl⟩
 |bl k=>exact⟨_,rfl,fin _ rfl⟩
 |int i=>exact⟨_,rfl,fin _ rfl⟩
 |str y hy=>
  refine⟨_,⟨hy,rfl⟩,fin _ ?_⟩;show R.ok _=R.ok _
  congr 1
  have:y.cps.toList.length=y.length:=Str.len_list y;cases h:y.cps.toList with
  |nil=>rw[h]at this;rw[<- this];rfl
  |cons c cs=>rw[h]at this;rw[<- this];simp;omega
 |tup h r=>exact⟨_,.inr (.inl ⟨_,h.mono st1.sub,rfl⟩),fin _ (by show R.ok _=R.ok _;rw[r.isEmpty])⟩
 |lst h r=>exact⟨_,.inl ⟨_,.of (st1.sub _ _ h),rfl⟩,fin _ (by show R.ok _=R.ok _;rw[r.isEmpty])⟩
 |fls h r=>exact⟨_,.inl ⟨_,h.mono st1.sub,rfl⟩,fin _ (by show R.ok _=R.ok _;rw[r.isEmpty])⟩
 |_=>exact h1.elim
def oU{op:CmpOp}{r:R2}{f:D->D->Option D}(ho:OpR X (compareOp op) r)(hf:ROk X.K r f)(ha:PF X a ga)(hb:PF X b gb)(hm:behindInMarks op b=false):PB X (.Compare a [op] [b] pos) (λρ=>g2 f ga gb ρ>>=asB):=by
 intro pins s σ H Q I h;refine vx ho ha hb hm pins s σ H Q I ?_;obtain⟨G,ρ,st,h⟩:=h;refine C5 hf ?_;refine tG.intro st h λx v G1 H1 u1 st1 r1 h1=>?_;cases r1 with
 |bl k=>exact⟨k,rfl,h1 k G1 H1 (.refl st1.sub) rfl⟩
 |_=>exact h1.elim
def Kb(ha:PF X a ga)(hb:PF X b gb):PB X (.Compare a [.Lt] [b] pos) (λρ=>g2 ltD ga gb ρ>>=asB):=oU DM (IZ _) ha hb (kZ _)
def KH(ha:PF X a ga)(hb:PF X b gb):PB X (.Compare a [.LtE] [b] pos) (λρ=>g2 leD ga gb ρ>>=asB):=oU lX (uL _) ha hb (kZ _)
def Ki(ha:PF X a ga)(hb:PF X b gb):PB X (.Compare a [.Gt] [b] pos) (λρ=>g2 gtD ga gb ρ>>=asB):=oU Kx (Kv _) ha hb (kZ _)
def Dh(K:PySem.W.Frag)(neg:Bool):ROk K (J4 K neg) (λx y=>(eqD 40 x y).map λk=>.bl (if neg then !k else k)):=by
 intro G H x y dx dy d Q s rx ry e q;dsimp only at e;cases e1:eqD 40 dx dy with
 |none=>rw[e1]at e;cases e
 |some k=>rw[e1]at e;cases e;exact⟨G,dx,dy,k,s,rx,ry,e1,q _ G H (.refl s) (.bl _)⟩
def J9(hu:X.A.units+64<cLine)(ha:PF X a ga)(hb:PF X b gb):PB X (.Compare a [.Eq] [b] pos) (λρ=>g2 eqF ga gb ρ>>=asB):=oU (DV hu) (Dh _ false) ha hb (kZ _)
def Kf(hu:X.A.units+64<cLine)(ha:PF X a ga)(hb:PF X b gb):PB X (.Compare a [.NotEq] [b] pos) (λρ=>g2 neF ga gb ρ>>=asB):=oU (Iw hu) (Dh _ true) ha hb (kZ _)
def K4(ha:PF X a ga)(hb:PF X b gb):PB X (.Compare a [.Is] [b] pos) (λρ=>g2 isF ga gb ρ>>=asB):=oU Iu (K2 _ false) ha hb (kZ _)
def vN{op op':CmpOp}{r r':R2}{f f':D->D->Option D}(ho:OpR X (compareOp op) r)(ho':OpR X (compareOp op') r')(hf:ROk X.K r f)(hf':ROk X.K r' f')(ha:PF X a ga)(hb:PF X b gb)(hc:PF X c gc)(hm:lastMarks [op,op'] [b,c]=false:=by with_unfolding_all rfl):PB X (.Compare a [op,op'] [b,c] pos) (λρ=>g3 f f' ga gb gc ρ>>=asB):=by
 intro pins s σ H Q I h;refine CG ho ho' ha hb hc hm pins s σ H Q I ?_;obtain⟨G,ρ,st,h⟩:=h;have h':(ga ρ>>=λx=>gb ρ>>=λy=>ofO (f x y)>>=λz=>(match z with|.bl true=>gc ρ>>=λw=>ofO (f' y w)|.bl false=>.ok (.bl false)|_=>.no)>>=asB).post (Fin G H (λ_ b c=>b=c) Q) (Exx X σ G H):=by
  have e:(g3 f f' ga gb gc ρ>>=asB)=(ga ρ>>=λx=>gb ρ>>=λy=>ofO (f x y)>>=λz=>(match z with|.bl true=>gc ρ>>=λw=>ofO (f' y w)|.bl false=>.ok (.bl false)|_=>.no)>>=asB):=by
   unfold g3;cases ga ρ with
   |ok x=>cases gb ρ with
    |ok y=>simp only[R.ok_bind];cases ofO (f x y) <;> rfl
    |_=>rfl
   |_=>rfl
  rw[<- e];exact h
 refine tG.intro st h' λx v G1 H1 u1 st1 r1 h1=>?_;refine tG.intro st1 h1 λy w G2 H2 u2 st2 r2 h2=>?_;cases e:f x y with
 |none=>rw[e]at h2;exact h2.elim
 |some d=>
  rw[e]at h2;refine hf G2 H2 v w x y d _ st2.sub (r1.mono u2.gg) r2 e λz G3 H3 u3 r3=>?_;have h3:=pF u3 h2;have st3:=st2.up u3;cases r3 with
  |bl k=>
   refine⟨k,rfl,?_⟩;cases k with
   |false=>rw[if_neg Bool.false_ne_true];exact⟨false,rfl,h3 _ G3 H3 (.refl st3.sub) rfl⟩
   |true=>
    rw[if_pos rfl];have h3':(gc ρ>>=λw=>ofO (f' y w)>>=asB).post (Fin G3 H3 (λ_ b c=>b=c) Q) (Exx X σ G3 H3):=by
     have e:((gc ρ>>=λw=>ofO (f' y w))>>=asB)=(gc ρ>>=λw=>ofO (f' y w)>>=asB):=by cases gc ρ <;> rfl
     rw[<- e];exact h3
    refine tG.intro st3 h3' λq vq G4 H4 u4 st4 r4 h4=>?_;cases e':f' y q with
    |none=>rw[e']at h4;exact h4.elim
    |some d'=>
     rw[e']at h4;refine hf' G4 H4 w vq y q d' _ st4.sub ((r2.mono u3.gg).mono u4.gg) r4 e' λz' G5 H5 u5 r5=>?_;have h5:=pF u5 h4;cases r5 with
     |bl k'=>exact⟨k',rfl,h5 k' G5 H5 (.refl u5.sub) rfl⟩
     |_=>exact h5.elim
  |_=>exact h3.elim
def FU(ha:PF X a ga)(hb:PF X b gb)(hc:PF X c gc)(hm:lastMarks [.LtE,.LtE] [b,c]=false:=by with_unfolding_all rfl):PB X (.Compare a [.LtE,.LtE] [b,c] pos) (λρ=>g3 leD leD ga gb gc ρ>>=asB):=vN lX lX (uL _) (uL _) ha hb hc hm
noncomputable def IG(t u:Ev->R Bool):Ev->R Bool:=λρ=>t ρ>>=λk=>if k=true then u ρ else .ok false
noncomputable def nV(t u:Ev->R Bool):Ev->R Bool:=λρ=>t ρ>>=λk=>if k=true then .ok true else u ρ
def fo(ha:PB X a gt):PBW X (.BoolOp .Or [a] pos) gt:=GD ha
def gE(ha:PB X a gt)(hb:PBW X (.BoolOp .Or (b::dj) pos) gu):PBW X (.BoolOp .Or (a::b::dj) pos) (nV gt gu):=by
 intro whole pins s σ H Q I h;refine K8 ha hb whole pins s σ H Q I ?_;obtain⟨G,ρ,st,h⟩:=h;refine tG.intro st h λx v G1 H1 u1 st1 r1 h1=>?_;subst r1;cases v with
 |true=>rw[if_pos rfl]at h1⊢;exact h1 _ G1 H1 (.refl st1.sub) rfl
 |false=>rw[if_neg Bool.false_ne_true]at h1⊢;exact tG.last st1 h1
def Ha(ha:PB X a gt):PB X (.UnaryOp .Not a pos) (λρ=>gt ρ>>=λk=>.ok (!k)):=by intro pins s σ H Q I h;refine Jh ha pins s σ H Q I ?_;obtain⟨G,ρ,st,h⟩:=h;refine tG.intro st h λx v G1 H1 u1 st1 r1 h1=>?_;subst r1;exact h1 _ G1 H1 (.refl st1.sub) rfl
noncomputable def gIf(gt:Ev->R Bool)(ga gb:Ev->R D):Ev->R D:=λρ=>gt ρ>>=λk=>if k=true then ga ρ else gb ρ
def CV(hc:PB X c gt)(ha:PF X a ga)(hb:PF X b gb):PF X (.IfExp c a b pos) (gIf gt ga gb):=by
 intro pins s σ H Q I h;refine Cu hc ha hb pins s σ H Q I ?_;obtain⟨G,ρ,st,h⟩:=h;refine tG.intro st h λx v G1 H1 u1 st1 r1 h1=>?_;subst r1;cases v with
 |true=>rw[if_pos rfl]at h1⊢;exact tG.last st1 h1
 |false=>rw[if_neg Bool.false_ne_true]at h1⊢;exact tG.last st1 h1
def af:PFA X [] (λ_=>.ok []):=by intro pos pins s σ H Q I h;obtain⟨G,ρ,st,h⟩:=h;exact iy pos pins s σ H Q I (h [] G H (.refl st.sub) .nil)
def B8(ha:PF X e ga)(hr:PFA X es gl)(hs:starEach (e::es) X.env=(false,eval e X.env)::starEach es X.env:=by rfl):PFA X (e::es) (λρ=>ga ρ>>=λx=>gl ρ>>=λxs=>.ok (x::xs)):=by intro pos pins s σ H Q I h;refine du ha hr hs pos pins s σ H Q I ?_;obtain⟨G,ρ,st,h⟩:=h;refine tG.intro st h λx v G1 H1 u1 st1 r1 h1=>?_;refine tG.intro st1 h1 λy w G2 H2 u2 st2 r2 h2=>?_;exact h2 _ G2 H2 (.refl st2.sub) (.cons (r1.mono u2.gg) r2)
noncomputable def mkT(ds:List D):R D:=if ds.length<=sizeLine then .ok (.tup ds)else .no
def HB(h:PFA X es gl):PF X (.Tuple es k pos) (λρ=>gl ρ>>=mkT):=by
 intro pins s σ H Q I hq;refine Dn h pins s σ H Q I ?_;obtain⟨G,ρ,st,hq⟩:=hq;refine tG.intro st hq λds vs G1 H1 u1 st1 r1 h1=>?_;unfold mkT at h1;split at h1;·rename_i hz;exact⟨by rw[r1.length];exact hz,λp hp=>h1 _ _ _ (.new st1.sub hp) (.tup (.of aS) (r1.mono (.into (st1.sub.free hp))))⟩
 ·exact h1.elim
def Dz{c:Nat}:[c].length<=sizeLine:=by show 1<=sizeLine;decide
noncomputable def ixD:D->D->Option D
 |.lst _ xs,.int i=>atI xs i
 |.tup xs,.int i=>atI xs i
 |.str x,.int i=>(atI x i).map λc=>.str [c]
 |_,_=>none
def Reps.atI{K:PySem.W.Frag}{G:Hp}{vs:List V}{ds:List D}{i:Int}{d:D}(r:Reps K G vs ds)(h:atI ds i=some d):∃v,atI vs i=some v/\Rep K G v d:=by
 unfold L2.atI at h⊢;rw[r.length];cases e:ixN ds.length i with
 |none=>rw[e]at h;cases h
 |some j=>rw[e]at h;exact r.get h
def Li(K:PySem.W.Frag):ROk K (rIx K) ixD:=by
 intro G H x y dx dy d Q s rx ry e q;unfold ixD at e;split at e;·obtain⟨a,vs,rfl,h,r⟩:=rx.seq_inv;obtain⟨v,e1,r1⟩:=r.atI e;exact .inl ⟨a,vs,_,v,rfl,ry.int_inv,h.mono s,e1,q v G H (.refl s) r1⟩
 ·obtain⟨a,vs,rfl,h,r⟩:=rx.tup_inv;obtain⟨v,e1,r1⟩:=r.atI e;exact .inr (.inl ⟨a,vs,_,v,rfl,ry.int_inv,h.mono s,e1,q v G H (.refl s) r1⟩)
 ·rename_i z i;obtain⟨y',rfl,ey,hy⟩:=rx.str_inv;subst ey;cases e1:L2.atI y'.cps.toList i with
  |none=>rw[e1]at e;cases e
  |some c=>rw[e1]at e;cases e;exact .inr (.inr ⟨y',i,c,rfl,ry.int_inv,hy,e1,q _ G H (.refl s) (.strL (by simp) Dz)⟩)
 ·cases e
def aX(ha:PF X a ga)(hb:PF X b gb)(hs:pL b:=by exact λ_ _=>rfl):PF X (.Subscript a b pos) (g2 ixD ga gb):=
 λpins s σ H Q I h=>Fc IH ha hb hs pins s σ H Q I (C5 (Li _) h)
end
noncomputable def qH{α:Type}(xs:List α)(lo hi:Option Int):List α:=(xs.drop (HT.sIx xs.length 0 lo)).take (HT.sIx xs.length xs.length hi - HT.sIx xs.length 0 lo)
def EE{α:Type}(xs:List α)(lo hi:Option Int):(qH xs lo hi).length<=xs.length:=by unfold qH;rw[List.length_take,List.length_drop];omega
def Reps.cut{K:PySem.W.Frag}(r:Reps K G vs ds)(lo hi:Option Int):Reps K G (Dp vs lo hi) (qH ds lo hi):=by unfold Dp qH;rw[r.length];exact(r.drop _).take _
section
variable{a b c e:Expr}{dj:List Expr}{lo hi:Option Expr}{ga gc:Ev->R D}{go gp:Ev->R (Option Int)}{p2:Pos}
noncomputable def Ir(K:PySem.W.Frag):V->Option Int->Option Int->Hp->VK->Prop:=λx lo hi H Q=>∃a xs,x=.ref a/\SqT K H a xs/\
 (HT.sIx xs.length 0 lo=0/\HT.sIx xs.length xs.length hi=xs.length)/\Q (.ref a) H
def sl_tup_whole:SlR X (Ir X.K):=by
 intro pins s σ H x v vl vu lo hi sl Q I rx hs pl pu h;obtain⟨a,xs,rfl,hx,⟨hw1,hw2⟩,q⟩:=h;cases rx;obtain⟨its,r,ht,hz⟩:=I.tuple hx;have hlen:its.toArray.size=xs.length:=by rw[List.size_toArray];exact r.length.symm
 refine⟨"tuple",_,PyProof.Rows.slot_tuple_getitem.lookup,ht.typeIs,?_⟩;obtain⟨os,hos,hcs,hds⟩:=id hs;have hTs:s.TypeIs (.ref sl) "slice":=⟨os,hos,hcs⟩
 unfold getItem
 try with_reducible refine wpAny_holding ?_
 first|refine wpAny_bind (wpAny_pure ?_)|skip
 refine wpAny_bind (wpAny_sequenceKey ht.typeIs (by decide) ?_);refine wpAny_bind (wpAny_callSpecial?_slot (name:=Str.ofString "__getitem__") ht.typeIs PyProof.Rows.slot_tuple_getitem
  (wpAny_call_entry PyProof.Rows.slot_tuple_getitem ht.typeIs entry_tuple_getitem ?_ (args_tuple_getitem _ _)));show wpAny _ _ (Builtin.Tuple.tupleItemsOf (.ref a)>>=_) _ _ s;refine wpAny_bind (tupleItemsOf_ ht ?_);refine wpAny_bind (wpAny_typeOf hTs ?_);rw[if_pos (by decide)];refine wpAny_bind (HT.sliceApplied_gen hs pl pu ?_);rw[hlen,hw1,hw2];dsimp only;rw[if_pos (by simp)];have fin:EP X pins σ Q (.ref a) s:=⟨.ref a,H,I,rfl,q⟩
 obtain⟨o,ho,hc,n,hd⟩:=id ht;unfold Builtin.Tuple.tupleIsExact;refine wpAny_bind (wpAny_bind (wpAny_typeOf ht.typeIs (wpAny_pure ?_)));rw[if_pos (by decide)];exact wpAny_bind (wpAny_rule (wpAny_pure ⟨_,rfl,wpAny_pure fin⟩))
def Ic{α:Type}(xs:List α)(a:Nat):∀k:Nat,((List.range k).map (a + ·)).filterMap (λi:Nat=>xs[i]?)=(xs.drop a).take k
 | 0=>by simp
 |k+1=>by
  rw[List.range_succ,List.map_append,List.filterMap_append,Ic xs a k,List.take_add_one,List.getElem?_drop]
  congr 1
  try (simp only[List.map_cons,List.map_nil,List.filterMap_cons,List.filterMap_nil];cases xs[a+k]? <;> rfl)
def wj(n d:Nat)(v:Option Int):(match v with|none=>(d:Int)|some i=>max 0 (min (if i<0 then i+(n:Int)else i) (n:Int)))=((HT.sIx n d v:Nat):Int):=by
 cases v with
 |none=>rfl
 |some i=>show max 0 (min (if i<0 then i+(n:Int)else i) (n:Int))=(((if i<0 then (i+(n:Int)).toNat else min i.toNat n):Nat):Int);split <;> omega
def Fp(lo hi:Option Int)(n:Nat):Builtin.Str.strSliceIndices lo hi 1 n=(List.range (HT.sIx n n hi - HT.sIx n 0 lo)).map (HT.sIx n 0 lo + ·):=by
 have e:Builtin.Str.strSliceIndices lo hi 1 n=sliceRange ((HT.sIx n 0 lo:Nat):Int) ((HT.sIx n n hi:Nat):Int) 1:=by rw[<- wj n 0 lo,<- wj n n hi];rfl
 rw[e];generalize HT.sIx n 0 lo=a;generalize HT.sIx n n hi=b;unfold sliceRange;have hc:(if (1:Int) > 0 then (if (a:Int)<(b:Int)then ((b:Int) - (a:Int)+1 - 1) / 1 else 0)else (if (a:Int) > (b:Int)then ((a:Int) - (b:Int) - 1 - 1) / (-1)else 0)).toNat=b - a:=by
  rw[if_pos (by decide)];split;·rw[Int.ediv_one];omega
  ·omega
 simp only[hc];apply List.map_congr_left;intro k _;omega
def zL(x:Str)(lo hi:Option Int):(Txt.slice x lo hi).cps.toList=qH x.cps.toList lo hi:=by
 have hn:x.cps.toList.length=x.length:=Str.len_list x;unfold Txt.slice qH;rw[hn,Fp];have hb:HT.sIx x.length x.length hi<=x.length:=HT.sIx_le _ _ (Nat.le_refl _) hi;by_cases hc:((1:Int)==1 && ((List.range (HT.sIx x.length x.length hi - HT.sIx x.length 0 lo)).map (HT.sIx x.length 0 lo + ·)).length==x.length)=true
 ·rw[if_pos hc];have h2:HT.sIx x.length x.length hi - HT.sIx x.length 0 lo=x.length:=by simpa using hc
  have h3:HT.sIx x.length 0 lo=0\/x.length=0:=by omega
  rw[h2];rcases h3 with h3|h3;·rw[h3,List.drop_zero,<- hn,List.take_length]
  ·have:x.cps.toList=[]:=List.eq_nil_of_length_eq_zero (by rw[hn];exact h3);rw[this];simp
 ·rw[if_neg hc];have e:(λi:Nat=>x.cps[i]?)=(λi:Nat=>x.cps.toList[i]?):=by funext i;simp
  show(List.filterMap (λi:Nat=>x.cps[i]?) _).toArray.toList=_;rw[List.toList_toArray,e,Ic]
noncomputable def Md:V->Option Int->Option Int->Hp->VK->Prop:=λx lo hi H Q=>∃y:Str,x=.str y/\y.length<=sizeLine/\Q (.str (Txt.slice y lo hi)) H
def sl_str:SlR X Md:=by
 intro pins s σ H x v vl vu lo hi sl Q I rx hs pl pu h;obtain⟨y,rfl,hz,q⟩:=h;obtain⟨t,rfl⟩:=rx;refine⟨"str",_,F.slot_str_getitem.lookup,typeIs_str _ _ _,?_⟩;cases pl with
 |none=>
  cases pu with
  |none=>exact wpAny_getItem_str_slice (l:=none) (u:=none) (st:=none) hs rfl (post_val_or_str ⟨Nat.le_trans (Txt.slice_le y _ _) hz,λt' k=>⟨.str _,H,I.tok k,⟨t',rfl⟩,q⟩⟩)
  |int j uj=>exact wpAny_getItem_str_slice (l:=none) (u:=some (j,uj)) (st:=none) hs rfl (post_val_or_str ⟨Nat.le_trans (Txt.slice_le y _ _) hz,λt' k=>⟨.str _,H,I.tok k,⟨t',rfl⟩,q⟩⟩)
 |int i ui=>
  cases pu with
  |none=>exact wpAny_getItem_str_slice (l:=some (i,ui)) (u:=none) (st:=none) hs rfl (post_val_or_str ⟨Nat.le_trans (Txt.slice_le y _ _) hz,λt' k=>⟨.str _,H,I.tok k,⟨t',rfl⟩,q⟩⟩)
  |int j uj=>exact wpAny_getItem_str_slice (l:=some (i,ui)) (u:=some (j,uj)) (st:=none) hs rfl (post_val_or_str ⟨Nat.le_trans (Txt.slice_le y _ _) hz,λt' k=>⟨.str _,H,I.tok k,⟨t',rfl⟩,q⟩⟩)
noncomputable def Fe(lo hi:Option Int):D->Option D
 |.str x=>some (.str (qH x lo hi))
 |.tup xs=>some (.tup (qH xs lo hi))
 |.lst _ xs=>some (.lst false (qH xs lo hi))
 |_=>none
noncomputable def rSl(K:PySem.W.Frag):V->Option Int->Option Int->Hp->VK->Prop:=λx lo hi H Q=>Md x lo hi H Q\/Ir K x lo hi H Q\/Mq K x lo hi H Q\/Mj K x lo hi H Q
def Jl:SlR X (rSl X.K):=sl_str.or (sl_tup_whole.or (sl_tup.or EV))
noncomputable def PFO(X:Cx)(o:Option Expr)(g:Ev->R (Option Int)):Prop:=PO X o (tG X (λ_ b c=>b=c) g)
def pB:PFO X none (λ_=>.ok none):=by intro pins s σ H Q I h;obtain⟨G,ρ,st,h⟩:=h;exact FQ pins s σ H Q I (h none G H (.refl st.sub) rfl)
noncomputable def asI:D->R Int
 |.int i=>.ok i
 |_=>.no
def CN(h:PF X e ga):PFO X (some e) (λρ=>ga ρ>>=λx=>asI x>>=λi=>.ok (some i)):=by
 intro pins s σ H Q I hq;refine E5 h pins s σ H Q I ?_;obtain⟨G,ρ,st,hq⟩:=hq;refine tG.intro st hq λx v G1 H1 u1 st1 r1 h1=>?_;cases r1 with
 |int i=>exact⟨i,rfl,h1 (some i) G1 H1 (.refl st1.sub) rfl⟩
 |_=>exact h1.elim
noncomputable def gSl(ga:Ev->R D)(go gp:Ev->R (Option Int)):Ev->R D:=λρ=>ga ρ>>=λx=>go ρ>>=λl=>gp ρ>>=λu=>ofO (Fe l u x)
def qv(ha:PF X a ga)(hl:PFO X lo go)(hu:PFO X hi gp):PF X (.Subscript a (.Slice lo hi none p2) pos) (gSl ga go gp):=by
 intro pins s σ H Q I h;refine Bs Jl ha hl hu pins s σ H Q I ?_;obtain⟨G,ρ,st,h⟩:=h;refine tG.intro st h λx v G1 H1 u1 st1 r1 h1=>?_;refine tG.intro st1 h1 λl l' G2 H2 u2 st2 r2 h2=>?_;subst r2;refine tG.intro st2 h2 λu u' G3 H3 u3 st3 r3 h3=>?_;subst r3;obtain⟨d,e,q⟩:=ofO.ok h3;have r:=(r1.mono u2.gg).mono u3.gg;unfold Fe at e;split at e;·cases e;obtain⟨y,rfl,ey,hy⟩:=r.str_inv;subst ey;exact .inl ⟨y,rfl,hy,q _ G3 H3 (.refl st3.sub) (.strL (zL y _ _) (Nat.le_trans (EE _ _ _) (by rw[Str.len_list];exact hy)))⟩
 ·rename_i xs0;cases e;obtain⟨a,vs,rfl,h,t⟩:=r.tup_inv;by_cases hw:HT.sIx vs.length 0 l'=0/\HT.sIx vs.length vs.length u'=vs.length
  ·refine .inr (.inl ⟨a,vs,rfl,h.mono st3.sub,hw,q _ G3 H3 (.refl st3.sub) ?_⟩);have e1:qH xs0 l' u'=xs0:=by unfold qH;rw[<- t.length,hw.1,hw.2,List.drop_zero,Nat.sub_zero,t.length,List.take_length]
   rw[e1];exact .tup h t
  ·exact .inr (.inr (.inl ⟨a,vs,rfl,h.mono st3.sub,hw,λp hp=>q _ _ _ (.new st3.sub hp) (.tup (.of aS) ((t.cut _ _).mono (.into (st3.sub.free hp))))⟩))
 ·cases e;obtain⟨a,vs,rfl,h,t⟩:=r.seq_inv;exact .inr (.inr (.inr ⟨a,vs,rfl,h.mono st3.sub,λp hp=>q _ _ _ (.new st3.sub hp) (.lst aS ((t.cut _ _).mono (.into (st3.sub.free hp))))⟩))
 ·cases e
noncomputable def G8(K:PySem.W.Frag)(r:List V->Hp->VK->Prop)(f:List D->Option D):Prop:=∀(G H:Hp)(xs:List V)(ds:List D)(d:D)(Q:VK),Same G H->Reps K G xs ds->f ds=some d->Fin G H (Rep K) Q d->r xs H Q
def lD{id:String}{p:Pos}{r:List V->Hp->VK->Prop}{f:List D->Option D}(hc:kI X (.builtin id) r)(hf:G8 X.K r f)(hg:Gl X x)(hm:X.mg x=none)(hv:bootBuiltins x=some (.builtin id))(ha:PFA X (e::es) gl)(hn:x≠"__name__":=by decide)(hdb:(x==("__debug__":Str))=false:=by decide)(he:starEach (e::es) X.env=(false,eval e X.env)::starEach es X.env:=by rfl)(hpl:(backTo pos (starEach es X.env)).any (·.1)=false:=by rfl):PF X (.Call (.Name x p) (e::es) [] pos) (λρ=>gl ρ>>=λds=>ofO (f ds)):=by
 intro pins s σ H Q I h;refine oZ hc hg hm hv ha hn hdb he hpl pins s σ H Q I ?_;obtain⟨G,ρ,st,h⟩:=h;refine tG.intro st h λds vs G1 H1 u1 st1 r1 h1=>?_;obtain⟨d,e,q⟩:=ofO.ok h1;exact hf G1 H1 vs ds d Q st1.sub r1 e q
def AH{T:String}{p:Pos}{r:List V->Hp->VK->Prop}{f:List D->Option D}(hc:kI X (.type T) r)(hf:G8 X.K r f)(hg:Gl X x)(hm:X.mg x=none)(hv:bootBuiltins x=some (.type T))(ha:PFA X (e::es) gl)(hn:x≠"__name__":=by decide)(hdb:(x==("__debug__":Str))=false:=by decide)(he:starEach (e::es) X.env=(false,eval e X.env)::starEach es X.env:=by rfl)(hpl:(backTo pos (starEach es X.env)).any (·.1)=false:=by rfl):PF X (.Call (.Name x p) (e::es) [] pos) (λρ=>gl ρ>>=λds=>ofO (f ds)):=by
 intro pins s σ H Q I h;refine mZ hc hg hm hv ha hn hdb he hpl pins s σ H Q I ?_;obtain⟨G,ρ,st,h⟩:=h;refine tG.intro st h λds vs G1 H1 u1 st1 r1 h1=>?_;obtain⟨d,e,q⟩:=ofO.ok h1;exact hf G1 H1 vs ds d Q st1.sub r1 e q
def Reps.one{K:PySem.W.Frag}(r:Reps K G vs [d]):∃v,vs=[v]/\Rep K G v d:=by
 cases r with
 |cons r t=>cases t;exact⟨_,rfl,r⟩
def Reps.two{K:PySem.W.Frag}{d':D}(r:Reps K G vs [d,d']):∃v w,vs=[v,w]/\Rep K G v d/\Rep K G w d':=by
 cases r with
 |cons r t=>obtain⟨w,rfl,r'⟩:=t.one;exact⟨_,w,rfl,r,r'⟩
noncomputable def eI:List D->Option D
 | [.str x]=>some (.int x.length)
 | [.tup xs]=>some (.int xs.length)
 | [.lst _ xs]=>some (.int xs.length)
 |_=>none
def Jz{p:Pos}(hg:Gl X "len")(hm:X.mg "len"=none)(ha:PFA X [e] gl)(he:starEach [e] X.env=[(false,eval e X.env)]:=by rfl):PF X (.Call (.Name "len" p) [e] [] pos) (λρ=>gl ρ>>=λds=>ofO (eI ds)):=
 lD Bx (by
  intro G H xs ds d Q s r e q;unfold eI at e;split at e;·cases e;obtain⟨v,rfl,r1⟩:=r.one;obtain⟨y,rfl,ey,hy⟩:=r1.str_inv;subst ey;exact⟨_,y.length,rfl,⟨hy,rfl⟩,by rw[<- Str.len_list];exact q _ G H (.refl s) (.int _)⟩
  ·cases e;obtain⟨v,rfl,r1⟩:=r.one;obtain⟨a,vs,rfl,h,t⟩:=r1.tup_inv;exact⟨_,vs.length,rfl,.inr ⟨vs,h.mono s,rfl⟩,by rw[t.length];exact q _ G H (.refl s) (.int _)⟩
  ·cases e;obtain⟨v,rfl,r1⟩:=r.one;obtain⟨a,vs,rfl,h,t⟩:=r1.seq_inv;exact⟨_,vs.length,rfl,.inl ⟨vs,h.mono s,rfl⟩,by rw[t.length];exact q _ G H (.refl s) (.int _)⟩
  ·cases e) hg hm PySem.boot_len ha (he:=by rw[he];rfl)
noncomputable def jL:List D->Option D
 | [.lst _ xs]=>some (.tup xs)
 | [.tup xs]=>some (.tup xs)
 |_=>none
def CL(K:PySem.W.Frag):G8 K (λxs H Q=>∃p ys,xs=[.ref p]/\((SqL K H p ys/\∀l,H l=none->Q (.ref l) (upd H l (.tup ys)))\/(SqT K H p ys/\Q (.ref p) H))) jL:=by
 intro G H xs ds d Q s r e q;unfold jL at e;split at e;·cases e;obtain⟨v,rfl,r1⟩:=r.one;obtain⟨a,vs,rfl,h,t⟩:=r1.seq_inv;exact⟨a,vs,rfl,.inl ⟨h.mono s,λl hl=>q _ _ _ (.new s hl) (.tup (.of aS) (t.mono (.into (s.free hl))))⟩⟩
 ·cases e;obtain⟨v,rfl,r1⟩:=r.one;obtain⟨a,vs,rfl,h,t⟩:=r1.tup_inv;exact⟨a,vs,rfl,.inr ⟨h.mono s,q _ G H (.refl s) (.tup h t)⟩⟩
 ·cases e
end
noncomputable def ItOk(K:PySem.W.Frag)(G₁:Hp)(J:It)(items:List D):Prop:=∀(i:Nat)(G H:Hp),Same G₁ G->Same G H->
 (∀d,items[i]?=some d->J.go i H/\∀x H',J.yld i H x H'->∃G',Up G H G' H'/\Rep K G' x d)/\(items.length<=i->J.stop i H)
noncomputable def PIF(X:Cx)(tg iter:Expr)(g:Ev->R (List D)):Prop:=PI X tg iter (tG X (λG J items=>ItOk X.K G J items) g)
noncomputable def Its(x:Str):It:=⟨λi _=>i<x.cps.size,λi H v H'=>H'=H/\∃c,x.cps[i]?=some c/\v=.str ⟨#[c]⟩,λi _=>x.cps.size<=i⟩
section
variable{a e:Expr}{ga:Ev->R D}
def za{l:Addr}{Rr:It->Hp->Prop}(I:Inv X pins σ H s)(h:SqL X.K H l xs)(q:Rr (Itl X.K l) H):
  wpAny (model X.prog X.w) X.A (pyIter (.ref l)) (PIE X pins σ tg Rr) X.xe s:=by
 obtain⟨its,rv,p,hz⟩:=I.list h;refine wpAny_pyIter_list p.isList ?_;refine⟨s.heap.objs.size,[s.heap.objs.size],_,_,H,rfl,I.kept (t':=s.toks) λb o e=>Heap.get?_push_of_some _ e,zR l _,⟨_,Heap.get?_push_size _ rfl,rfl,rfl⟩,λb hb=>?_,q⟩;have e:b=s.heap.objs.size:=by simpa using hb
 subst e;exact I.fpOk (Nat.le_refl _) (I.hok.fresh (Nat.le_refl _))
def Iz{l:Addr}{Rr:It->Hp->Prop}(I:Inv X pins σ H s)(h:SqT X.K H l xs)(q:Rr (Itt X.K l) H):
  wpAny (model X.prog X.w) X.A (pyIter (.ref l)) (PIE X pins σ tg Rr) X.xe s:=by
 obtain⟨its,rv,p,hz⟩:=I.tuple h;refine wpAny_pyIter_tuple (show s.heap.IsTuple l its.toArray from p) ?_;refine⟨s.heap.objs.size,[s.heap.objs.size],_,_,H,rfl,I.kept (t':=s.toks) λb o e=>Heap.get?_push_of_some _ e,xR l _,⟨_,Heap.get?_push_size _ rfl,rfl,rfl⟩,λb hb=>?_,q⟩;have e:b=s.heap.objs.size:=by simpa using hb
 subst e;exact I.fpOk (Nat.le_refl _) (I.hok.fresh (Nat.le_refl _))
def xL{w:World}{K:PySem.W.Frag}(it:Addr)(x:Str)(t:Tok):Turn P w K tg (Its x) [it] it (λi h=>h.IsStrIter it "str_ascii_iterator" x t i) where
 mem:=by simp
 obj:=λi h st b hb=>by
  have e:b=it:=by simpa using hb
  subst e;obtain⟨o,e,c,d⟩:=st;exact⟨o,e,λv z=>by rw[d]at z;cases z⟩
 keep:=λi h h' st k=>let⟨o,ho,r⟩:=st;⟨o,k it (by simp) o ho,r⟩
 item:=by intro X hP hw hK hc i pins s σ H E I hf st hg;subst hP hw hK;have hg':i<x.cps.size:=hg;obtain⟨f0,f1,f2,f3,f4,f5⟩:=hf it (by simp);refine wpAny_pyNext_ascii_item st (c:=x.cps[i]) (by simp[hg']) λh' st' sb=>?_;have I1:Inv X pins σ H { s with heap:=h',toks:=s.toks+1 }:=I.turned (t':=s.toks+1) (λb o hb e=>(sb.2 b hb).trans e) f0 f1 f3 f4 f5;obtain⟨o,e,c,d⟩:=id st';exact⟨_,rfl,yL (s:={ s with heap:=h',toks:=s.toks+1 }) e c d (by decide) ⟨.str ⟨#[x.cps[i]]⟩,H,I1,⟨_,rfl⟩,⟨rfl,_,by simp[hg'],rfl⟩,st',λb hb=>(hf b hb).1⟩⟩
 done:=by intro X hP hw hK hc i pins s σ H E I hf st hg;subst hP hw hK;obtain⟨f0,f1,f2,f3,f4,f5⟩:=hf it (by simp);have hg':x.cps.size<=i:=hg;exact wpAny_pyNext_ascii_end (I.ok.hd hc) st (by simp;omega) λh' eb=>⟨rfl,I.turned (t':=s.toks) (λb o hb e=>eb b o hb e) f0 f1 f3 f4 f5⟩
 self:=λ_ _ _ _ _ st h=>wpAny_pyIter_striter_ascii st h
def yi{w:World}{K:PySem.W.Frag}(it:Addr)(x:Str)(t:Tok):Turn P w K tg (Its x) [it] it (λi h=>h.IsStrIter it "str_iterator" x t i) where
 mem:=by simp
 obj:=λi h st b hb=>by
  have e:b=it:=by simpa using hb
  subst e;obtain⟨o,e,c,d⟩:=st;exact⟨o,e,λv z=>by rw[d]at z;cases z⟩
 keep:=λi h h' st k=>let⟨o,ho,r⟩:=st;⟨o,k it (by simp) o ho,r⟩
 item:=by intro X hP hw hK hc i pins s σ H E I hf st hg;subst hP hw hK;have hg':i<x.cps.size:=hg;obtain⟨f0,f1,f2,f3,f4,f5⟩:=hf it (by simp);refine wpAny_pyNext_wide_item st (c:=x.cps[i]) (by simp[hg']) λh' st' sb=>?_;have I1:Inv X pins σ H { s with heap:=h',toks:=s.toks+1 }:=I.turned (t':=s.toks+1) (λb o hb e=>(sb.2 b hb).trans e) f0 f1 f3 f4 f5;obtain⟨o,e,c,d⟩:=id st';exact⟨_,rfl,yL (s:={ s with heap:=h',toks:=s.toks+1 }) e c d (by decide) ⟨.str ⟨#[x.cps[i]]⟩,H,I1,⟨_,rfl⟩,⟨rfl,_,by simp[hg'],rfl⟩,st',λb hb=>(hf b hb).1⟩⟩
 done:=by intro X hP hw hK hc i pins s σ H E I hf st hg;subst hP hw hK;obtain⟨f0,f1,f2,f3,f4,f5⟩:=hf it (by simp);have hg':x.cps.size<=i:=hg;exact wpAny_pyNext_wide_end (I.ok.hd hc) st (by simp;omega) λh' eb=>⟨rfl,I.turned (t':=s.toks) (λb o hb e=>eb b o hb e) f0 f1 f3 f4 f5⟩
 self:=λ_ _ _ _ _ st h=>wpAny_pyIter_striter_wide st h
def Jg{t:Tok}{Rr:It->Hp->Prop}(I:Inv X pins σ H s)(q:Rr (Its x) H):
  wpAny (model X.prog X.w) X.A (pyIter (.str x t)) (PIE X pins σ tg Rr) X.xe s:=by
 have fp:∀(o:Obj),∀b∈[s.heap.objs.size],lN X pins H b:=λo b hb=>by
  have e:b=s.heap.objs.size:=by simpa using hb
  subst e;exact I.fpOk (Nat.le_refl _) (I.hok.fresh (Nat.le_refl _))
 cases ha:x.cps.all (· < 128);·refine wpAny_pyIter_wide ha ⟨s.heap.objs.size,[s.heap.objs.size],_,_,H,rfl,I.kept (t':=s.toks) λb o e=>Heap.get?_push_of_some _ e,yi _ x t,⟨_,Heap.get?_push_size _ rfl,rfl,rfl⟩,fp default,q⟩
 ·refine wpAny_pyIter_ascii ha ⟨s.heap.objs.size,[s.heap.objs.size],_,_,H,rfl,I.kept (t':=s.toks) λb o e=>Heap.get?_push_of_some _ e,xL _ x t,⟨_,Heap.get?_push_size _ rfl,rfl,rfl⟩,fp default,q⟩
noncomputable def ce:D->R (List D)
 |.lst _ xs=>.ok xs
 |.tup xs=>.ok xs
 |.str x=>.ok (x.map λc=>.str [c])
 |_=>.no
def ItOk.list{K:PySem.W.Frag}{l:Addr}(h:SqL K G l vs)(r:Reps K G vs ds):ItOk K G (Itl K l) ds:=by intro i G1 H1 s1 s2;refine⟨λd e=>?_,λhl=>⟨vs,(h.mono s1).mono s2,by rw[r.length];exact hl⟩⟩;obtain⟨v,ev,rv⟩:=r.get e;refine⟨⟨vs,v,(h.mono s1).mono s2,ev⟩,λx H' y=>?_⟩;obtain⟨rfl,y⟩:=y;have:=y vs ((h.mono s1).mono s2);rw[ev]at this;cases this;exact⟨G1,.refl s2,rv.mono s1⟩
def ItOk.tup{K:PySem.W.Frag}{l:Addr}(h:SqT K G l vs)(r:Reps K G vs ds):ItOk K G (Itt K l) ds:=by intro i G1 H1 s1 s2;refine⟨λd e=>?_,λhl=>⟨vs,(h.mono s1).mono s2,by rw[r.length];exact hl⟩⟩;obtain⟨v,ev,rv⟩:=r.get e;refine⟨⟨vs,v,(h.mono s1).mono s2,ev⟩,λx H' y=>?_⟩;obtain⟨rfl,y⟩:=y;have:=y vs ((h.mono s1).mono s2);rw[ev]at this;cases this;exact⟨G1,.refl s2,rv.mono s1⟩
def ItOk.str{K:PySem.W.Frag}(x:Str):ItOk K G (Its x) (x.cps.toList.map λc=>.str [c]):=by
 intro i G1 H1 s1 s2;refine⟨λd e=>?_,λhl=>show x.cps.size<=i by simpa using hl⟩;rw[List.getElem?_map]at e;cases ec:x.cps.toList[i]? with
 |none=>rw[ec]at e;cases e
 |some c=>
  rw[ec]at e;cases e;have hi:i<x.cps.size:=by have:=(List.getElem?_eq_some_iff.mp ec).1;simpa using this
  refine⟨hi,λv H' y=>?_⟩;obtain⟨rfl,c',e',rfl⟩:=y;have:c'=c:=by
   have h2:x.cps.toList[i]?=x.cps[i]?:=by simp
   rw[h2,e']at ec;exact Option.some.inj ec
  subst this;exact⟨G1,.refl s2,.strL rfl Dz⟩
def ItOk.range{K:PySem.W.Frag}(lo:Int)(n:Nat):ItOk K G (Itr lo n) ((List.range n).map λi=>.int (lo+(i:Nat))):=by
 intro i G1 H1 s1 s2;refine⟨λd e=>?_,λhl=>show n<=i by simpa using hl⟩;rw[List.getElem?_map]at e;by_cases hi:i<n;·rw[List.getElem?_range hi]at e;cases e;refine⟨hi,λv H' y=>?_⟩;obtain⟨rfl,rfl⟩:=y;exact⟨G1,.refl s2,.int _⟩
 ·rw[List.getElem?_eq_none (by simpa using hi)]at e;cases e
def E1(ha:PF X a ga):PIF X tg a (λρ=>ga ρ>>=ce):=by
 intro pins s σ H Rr I h;obtain⟨G,ρ,st,h⟩:=h;have t:tF X ga σ H (λx H1=>∃G1 d,Same G1 H1/\Rep X.K G1 x d/\(ce d).post (Fin G1 H1 (λG J items=>ItOk X.K G J items) Rr) (Exx X σ G1 H1)):=
  tG.intro st h λx v G1 H1 u1 st1 r1 h1=>⟨G1,x,st1.sub,r1,h1⟩
 refine thn (ha pins s σ H _ I t) λv s1 ⟨x,H1,I1,r1,G1,d,sub,rd,h1⟩=>?_;cases rd with
 |lst hh r=>cases r1;exact za I1 (.of (sub _ _ hh)) (h1 _ G1 H1 (.refl sub) (.list (.of hh) r))
 |fls hh r=>cases r1;exact za I1 (hh.mono sub) (h1 _ G1 H1 (.refl sub) (.list hh r))
 |tup hh r=>cases r1;exact Iz I1 (hh.mono sub) (h1 _ G1 H1 (.refl sub) (.tup hh r))
 |str y hy=>obtain⟨t,rfl⟩:=r1;exact Jg I1 (h1 _ G1 H1 (.refl sub) (.str y))
 |_=>exact h1.elim
noncomputable def ca:List D->R (List D)
 | [.int j]=>if -(2 ^ 62)<=j/\j<2 ^ 62 then .ok ((List.range j.toNat).map λi=>.int (0+(i:Nat)))else .no
 |_=>.no
noncomputable def eF:List D->R (List D)
 | [.int i,.int j]=>if -(2 ^ 62)<=i/\i<2 ^ 62/\-(2 ^ 62)<=j/\j<2 ^ 62 then .ok ((List.range (j - i).toNat).map λk=>.int (i+(k:Nat)))else .no
 |_=>.no
def xq{p:Pos}(hg:Gl X "range")(hm:X.mg "range"=none)(ha:PFA X [a] gl)(hs:starEach [a] X.env=[(false,eval a X.env)]:=by rfl):PIF X tg (.Call (.Name "range" p) [a] [] pos) (λρ=>gl ρ>>=ca):=by
 intro pins s σ H Rr I h;refine yq hg hm ha hs pins s σ H Rr I ?_;obtain⟨G,ρ,st,h⟩:=h;refine tG.intro st h λds vs G1 H1 u1 st1 r1 h1=>?_;unfold ca at h1;split at h1
 ·split at h1;·rename_i hj;obtain⟨v,rfl,r⟩:=r1.one;obtain rfl:=r.int_inv;exact⟨_,rfl,hj.1,hj.2,h1 _ G1 H1 (.refl st1.sub) (.range 0 _)⟩
  ·exact h1.elim
 ·exact h1.elim
def xO{b:Expr}{p:Pos}(hg:Gl X "range")(hm:X.mg "range"=none)(ha:PFA X [a,b] gl)(hs:starEach [a,b] X.env=[(false,eval a X.env),(false,eval b X.env)]:=by rfl)(hs2:starEach [b] X.env=[(false,eval b X.env)]:=by rfl):
  PIF X tg (.Call (.Name "range" p) [a,b] [] pos) (λρ=>gl ρ>>=eF):=by
 intro pins s σ H Rr I h;refine AG hg hm ha hs hs2 pins s σ H Rr I ?_;obtain⟨G,ρ,st,h⟩:=h;refine tG.intro st h λds vs G1 H1 u1 st1 r1 h1=>?_;unfold eF at h1;split at h1
 ·split at h1;·rename_i hj;obtain⟨v,w,rfl,r,r'⟩:=r1.two;obtain rfl:=r.int_inv;obtain rfl:=r'.int_inv;exact⟨_,_,rfl,hj,h1 _ G1 H1 (.refl st1.sub) (.range _ _)⟩
  ·exact h1.elim
 ·exact h1.elim
end
noncomputable def ObSt(K:PySem.W.Frag)(H₀ G H:Hp)(σ:St)(ρ:Ev):Prop:=
 ∃ow:ko,(∀(i:Nat) ds l,ρ[i]?=some (some (.own ds))->σ[i]?=some (some (.ref l))->ow l=some (i,0))/\
  ∀(i:Nat) m C p fs,ρ[i]?=some (some (.obj m C p fs))->σ[i]?=some (some (.ref p))/\ObjAt K H₀ G H ow i m C p fs
def ObSt.rd{K:PySem.W.Frag}{H₀:Hp}(h:ObSt K H₀ G H σ ρ):∀(i:Nat) m C p fs,ρ[i]?=some (some (.obj m C p fs))->σ[i]?=some (some (.ref p))/\∃ow,ObjAt K (λ_=>none) G H ow i m C p fs:=λi m C p fs e=>by obtain⟨ow,_,o2⟩:=h;exact⟨(o2 i m C p fs e).1,ow,(o2 i m C p fs e).2.rd⟩
noncomputable def NoOwn(ρ:Ev):Prop:=∀(j:Nat)(x:Sl),ρ[j]?=some (some x)->∃d,x=.val d
def NoOwn.own(h:NoOwn ρ)(j:Nat)(ds:List D):ρ[j]?≠some (some (.own ds)):=λe=>by obtain⟨d,z⟩:=h j _ e;cases z
def NoOwn.obj(h:NoOwn ρ)(j:Nat)(m:Bool)(C p:Addr)(fs:List (Nat×Fd)):ρ[j]?≠some (some (.obj m C p fs)):=λe=>by obtain⟨d,z⟩:=h j _ e;cases z
def NoOwn.ob{K:PySem.W.Frag}{H₀:Hp}(h:NoOwn ρ):ObSt K H₀ G H σ ρ:=
 ⟨λ_=>none,λi ds l e=>absurd e (h.own i ds),λi m C p fs e=>absurd e (h.obj i m C p fs)⟩
structure StR(K:PySem.W.Frag)(G₀ H₀ G H:Hp)(σ:St)(ρ:Ev):Prop where
 e:StE K G H σ ρ
 sub0:Same G₀ H₀
 up:Up G₀ H₀ G H
 own:∀(i:Nat) ds,ρ[i]?=some (some (.own ds))->∃l vs,σ[i]?=some (some (.ref l))/\H l=some (.lst vs)/\G l=none/\H₀ l=none/\Reps K G vs ds
 inj:∀(i j:Nat) ds es l,ρ[i]?=some (some (.own ds))->ρ[j]?=some (some (.own es))->σ[i]?=some (some (.ref l))->σ[j]?=some (some (.ref l))->i=j
 ob:ObSt K H₀ G H σ ρ
section
variable{K:PySem.W.Frag}{H₀ G':Hp}
def StR.ups(s:StR K G₀ H₀ G H σ ρ)(u:Up G H G' H'):StR K G₀ H₀ G' H' σ ρ:=⟨s.e.up u,s.sub0,s.up.trans u,(λi ds e=>by
 obtain⟨l,vs,h1,h2,h3,h4,h5⟩:=s.own i ds e;refine⟨l,vs,h1,u.hh _ _ h2,?_,h4,h5.mono u.gg⟩;cases q:G' l with
 |none=>rfl
 |some o=>
  rcases u.fr l o q with z|z;·rw[h3]at z;cases z
  ·rw[h2]at z;cases z),s.inj,by
 obtain⟨ow,o1,o2⟩:=s.ob;exact⟨ow,o1,λi m C p fs e=>⟨(o2 i m C p fs e).1,(o2 i m C p fs e).2.keep (.up u)⟩⟩⟩
def StR.set(s:StR K G₀ H₀ G H σ ρ)(r:Rep K G v d)(i:Nat):StR K G₀ H₀ G H (σ.set i (some v)) (ρ.set i (some (.val d))):=by
 have get:∀(j:Nat) x,(ρ.set i (some (.val d)))[j]?=some (some x)->(j=i/\x=.val d/\i<σ.length)\/(j≠i/\ρ[j]?=some (some x)/\(σ.set i (some v))[j]?=σ[j]?):=λj x h=>by
  by_cases e:i=j
  ·subst e;have hl:i<ρ.length:=by have:=(List.getElem?_eq_some_iff.mp h).1;simpa using this
   rw[List.getElem?_set_self hl]at h;exact .inl ⟨rfl,by injection (Option.some.inj h)with q;exact q.symm,by rw[s.e.len];exact hl⟩
  ·rw[List.getElem?_set_ne e]at h;exact .inr ⟨λz=>e z.symm,h,List.getElem?_set_ne e⟩
 have ob:ObSt K H₀ G H (σ.set i (some v)) (ρ.set i (some (.val d))):=by
  obtain⟨ow,o1,o2⟩:=s.ob;refine⟨ow,λj ds l h1 h2=>?_,λj m C p fs h1=>?_⟩
  ·rcases get j _ h1 with⟨_,e,_⟩|⟨_,e,e'⟩;·cases e
   ·exact o1 j ds l e (e'▸h2)
  ·rcases get j _ h1 with⟨_,e,_⟩|⟨_,e,e'⟩;·cases e
   ·rw[e'];exact o2 j m C p fs e
 refine⟨⟨s.e.sub,by simp[s.e.len],λj d' h=>?_,ob.rd⟩,s.sub0,s.up,λj ds h=>?_,λj k ds es l h1 h2 h3 h4=>?_,ob⟩
 ·rcases get j _ h with⟨rfl,e,hl⟩|⟨_,e,e'⟩;·cases e;exact⟨v,List.getElem?_set_self hl,r⟩
  ·rw[e'];exact s.e.val j d' e
 ·rcases get j _ h with⟨_,e,_⟩|⟨_,e,e'⟩;·cases e
  ·rw[e'];exact s.own j ds e
 ·rcases get j _ h1 with⟨_,e,_⟩|⟨_,e,e'⟩;·cases e
  ·rcases get k _ h2 with⟨_,f,_⟩|⟨_,f,f'⟩;·cases f
   ·exact s.inj j k ds es l e f (e'▸h3) (f'▸h4)
end
noncomputable def PGF(X:Cx)(tg:Expr)(asg:D->Ev->R Ev):Prop:=PG X tg (λv σ H Q=>∃G₀ H₀ G ρ d ρ',StR X.K G₀ H₀ G H σ ρ/\Rep X.K G v d/\asg d ρ=.ok ρ'/\∀σ',StR X.K G₀ H₀ G H σ' ρ'->Q σ' H)
section
noncomputable def lI(i:Nat):D->Ev->R Ev:=λd ρ=>.ok (ρ.set i (some (.val d)))
def fE(i:Nat)(hN:X.N.Nodup)(hi:X.N[i]?=some x:=by rfl)(hx:Loc X.env.scope x:=by first|exact Or.inl rfl|exact Or.inr rfl)(hf:X.fn x=true\/X.env.scope.names.lookup x=some .local:=by first|exact .inl rfl|exact .inr rfl):PGF X (.Name x pos) (lI i):=by
 intro pins s σ H v u Q I r h;obtain⟨G₀,H₀,G,ρ,d,ρ',st,rd,e,q⟩:=h;cases e;exact fR hN hi hx hf pins s σ H v u Q I r (q _ (st.set rd i))
end
noncomputable def tR(K:PySem.W.Frag)(G H:Hp)(Q:VK):List D->Prop:=λds=>∀l vs G' H',Up G H G' H'->H' l=none->Reps K G' vs ds->Q (.ref l) (upd H' l (.lst vs))
noncomputable def tL(X:Cx)(g:Ev->R (List D)):TE:=λσ H Q=>∃G ρ,StE X.K G H σ ρ/\(g ρ).post (tR X.K G H Q) (Exx X σ G H)
noncomputable def PFL(X:Cx)(e:Expr)(g:Ev->R (List D)):Prop:=PE X e (tL X g)
def vY{e:Expr}{g:Ev->R (List D)}(h:PFL X e g):PF X e (λρ=>g ρ>>=λds=>.ok (.lst false ds)):=by
 intro pins s σ H Q I hq;refine h pins s σ H Q I ?_;obtain⟨G,ρ,st,hq⟩:=hq
 try dsimp only at hq
 refine⟨G,ρ,st,?_⟩;cases e:g ρ with
 |ok ds=>rw[e]at hq;intro l vs G' H' u hl r;exact hq _ _ _ (u.trans (.new u.sub hl)) (.lst aS (r.mono (.into (u.sub.free hl))))
 |ex C=>rw[e]at hq;exact hq
 |no=>rw[e]at hq;exact hq
def EY(h:PFA X es gl):PFL X (.List es pos) (λρ=>gl ρ>>=λds=>if ds.length<=sizeLine then .ok ds else .no):=by
 intro pins s σ H Q I hq;refine GN h pins s σ H Q I ?_;obtain⟨G,ρ,st,hq⟩:=hq
 try dsimp only at hq
 refine⟨G,ρ,st,?_⟩;cases e:gl ρ with
 |ok ds=>
  rw[e]at hq;intro vs G' H' u r;simp only[R.ok_bind]at hq;split at hq;·rename_i hz;exact⟨by rw[r.length];exact hz,λp hp=>hq p vs G' H' u hp r⟩
  ·exact hq.elim
 |ex C=>rw[e]at hq;exact hq
 |no=>rw[e]at hq;exact hq
noncomputable def sM(env:Env):List (Str×NameKind)->List (Str×Addr)->List (Str×Addr)
 | [],cs=>cs
 | (n,k)::r,cs=>sM env r (if (k==.free)=true then (match env.cells.lookup n with|some c=>(n,c)::cs|none=>cs)else cs)
def vW{env:Env}{F:Str×NameKind->List (Str×Addr)->Sem (ForInStep (List (Str×Addr)))}(hF:∀n k r,(k=NameKind.free->∃c,env.cells.lookup n=some c)->F (n,k) r=pure (ForInStep.yield (if (k==.free)=true then (match env.cells.lookup n with|some c=>(n,c)::r|none=>r)else r))):
  ∀(l:List (Str×NameKind))(cs:List (Str×Addr)),(∀x∈l,x.2=.free->∃c,env.cells.lookup x.1=some c)->forIn l cs F=pure (sM env l cs)
 | [],cs,_=>rfl
 | (n,k)::l,cs,h=>by rw[List.forIn_cons,hF n k cs (h (n,k) List.mem_cons_self),pure_bind];exact vW hF l _ λy hy=>h y (List.mem_cons_of_mem _ hy)
def eN{env:Env}(h:∀x∈scope.names,x.2=.free->∃c,env.cells.lookup x.1=some c):closureFor scope env=pure (sM env scope.names []):=by
 simp only[closureFor];rw[vW (env:=env) (λn k r hk=>?_) scope.names [] h];·rfl
 ·by_cases hf:(k==NameKind.free)=true;·obtain⟨c,hc⟩:=hk (by simpa using hf);simp only[hf,if_true,cellOf,hc,pure_bind]
  ·simp only[hf,if_false];rfl
def pI{env:Env}:∀(l:List (Str×NameKind))(cs:List (Str×Addr)),(∀x c,cs.lookup x=some c->env.cells.lookup x=some c)->∀x c,(sM env l cs).lookup x=some c->env.cells.lookup x=some c
 | [],cs,h,x,c,e=>h x c e
 | (n,k)::l,cs,h,x,c,e=>by
  unfold sM at e;refine pI l _ (λy d ed=>?_) x c e;split at ed
  ·split at ed
   ·rename_i c' hc';rw[List.lookup_cons]at ed;split at ed;·rename_i q;rw[eq_of_beq q];rw[<- Option.some.inj ed];exact hc'
    ·exact h y d ed
   ·exact h y d ed
  ·exact h y d ed
def lG{env:Env}:∀(l:List (Str×NameKind))(cs:List (Str×Addr))(x:Str),((∃c,cs.lookup x=some c)\/((x,NameKind.free)∈l/\∃c,env.cells.lookup x=some c))->∃c,(sM env l cs).lookup x=some c
 | [],cs,x,h=>by
  rcases h with h|⟨h,_⟩;·exact h
  ·cases h
 | (n,k)::l,cs,x,h=>by
  unfold sM;refine lG l _ x ?_;rcases h with⟨c,h⟩|⟨h,c,hc⟩
  ·left;split
   ·split
    ·rename_i c' _;rw[List.lookup_cons];split;·exact⟨_,rfl⟩
     ·exact⟨c,h⟩
    ·exact⟨c,h⟩
   ·exact⟨c,h⟩
  ·rcases List.mem_cons.mp h with e|h;·cases e;left;rw[if_pos (by rfl),hc];exact⟨c,by simp[List.lookup_cons]⟩
   ·exact .inr ⟨h,c,hc⟩
noncomputable def bK(X:Cx)(N':List Str)(scope:Scope)(C:Addr)(s₂:Shared)(H₂:Hp)(fp:List Addr):Cx:=
 { X with N:=N',s₀:=s₂,H₀:=H₂,env:=compEnvC scope (sM X.env scope.names []) C X.env,outer:=X.stack,stack:=X.stack,ex:=fp,fn:=λ_=>false,pn:=[],xe:=λ_ _=>False }
noncomputable def fw{α:Type}:R α->R α
 |.ok a=>.ok a
 |_=>.no
noncomputable def gR(ix:List Nat)(ρ:Ev):Ev:=none::ix.map λ(i:Nat)=>match ρ[i]? with
 |some (some (.val d))=>some (.val d)
 |_=>none
noncomputable def de(n:Nat)(ix:List Nat)(ρ:Ev):Ev:=List.replicate n none++ix.map λ(i:Nat)=>match ρ[i]? with
 |some (some (.val d))=>some (.val d)
 |_=>none
noncomputable def eA(asg:D->Ev->R Ev)(gt:Ev->R Bool)(ge:Ev->R D):List D->Ev->R (List D)
 | [],_=>.ok []
 |d::ds,ρ=>fw (asg d ρ)>>=λρ1=>fw (gt ρ1)>>=λk=>if k=true then fw (ge ρ1)>>=λx=>eA asg gt ge ds ρ1>>=λxs=>.ok (x::xs)else eA asg gt ge ds ρ1
noncomputable def fB(gt:Ev->R Bool)(ge:Ev->R D):List D->Ev->R (List D):=eA (lI 0) gt ge
def kL{asg:D->Ev->R Ev}{gt:Ev->R Bool}{ge:Ev->R D}:∀(ds:List D)(ρ:Ev),(∃xs,eA asg gt ge ds ρ=.ok xs)\/eA asg gt ge ds ρ=.no
 | [],ρ=>.inl ⟨[],rfl⟩
 |d::ds,ρ=>by
  unfold eA;cases asg d ρ with
  |ok ρ1=>
   simp only[fw,R.ok_bind];cases gt ρ1 with
   |ok k=>
    simp only[fw,R.ok_bind];cases k with
    |true=>
     simp only[if_true];cases ge ρ1 with
     |ok x=>
      simp only[fw,R.ok_bind];rcases kL (asg:=asg) ds ρ1 with⟨xs,e⟩|e;·rw[e];exact .inl ⟨_,rfl⟩
      ·rw[e];exact .inr rfl
     |ex C=>exact .inr rfl
     |no=>exact .inr rfl
    |false=>simp only[Bool.false_eq_true,if_false];exact kL ds _
   |ex C=>exact .inr rfl
   |no=>exact .inr rfl
  |ex C=>exact .inr rfl
  |no=>exact .inr rfl
noncomputable def fy(gi:Ev->R (List D))(ix:List Nat)(gt:Ev->R Bool)(ge:Ev->R D):Ev->R (List D):=λρ=>gi ρ>>=λitems=>fB gt ge items (gR ix ρ)>>=λds=>if ds.length<=sizeLine then .ok ds else .no
noncomputable def kh(n:Nat)(asg:D->Ev->R Ev)(gi:Ev->R (List D))(ix:List Nat)(gt:Ev->R Bool)(ge:Ev->R D):Ev->R (List D):=λρ=>gi ρ>>=λitems=>eA asg gt ge items (de n ix ρ)>>=λds=>if ds.length<=sizeLine then .ok ds else .no
noncomputable def PTs(X:Cx)(ifs:List Expr)(gt:Ev->R Bool):Prop:=∀(pins:List (Addr×Obj))(s:Shared)(σ:St)(H:Hp)(Q:Bool->Hp->Prop),Inv X pins σ H s->tTF X gt σ H Q->
 wpAny (model X.prog X.w) X.A (forIn ifs true λc r=>if r=true then do let ok <- isTrue c X.env (eval c X.env);pure (ForInStep.yield ok)else pure (ForInStep.yield r)) (TP X pins σ Q) X.xe s
def iL:PTs X [] (λ_=>.ok true):=by intro pins s σ H Q I h;obtain⟨G,ρ,st,h⟩:=h;exact wpAny_pure ⟨H,I,h true G H (.refl st.sub) rfl⟩
def zQz9{c:Expr}{gt:Ev->R Bool}(h:PB X c gt):PTs X [c] gt:=λpins s σ H Q I q=>wpAny_tests_one (h pins s σ H Q I q)
def Un.sameBut{fs ex:List Addr}{h1 h2:Heap}(u:Un fs ex H H' h h1)(k:∀b o,b≠C->h1.get? b=some o->h2.get? b=some o)(hC:h.objs.size<=C):Un fs ex H H' h h2:=by have ne:∀b o,h.get? b=some o->b≠C:=λb o e=>Nat.ne_of_lt (Nat.lt_of_lt_of_le (Heap.lt_size e) hC);exact⟨λb o e n hb hx=>k b o (ne b o e) (u.keep b o e n hb hx),λb o e n hb hx=>let⟨sl,q⟩:=u.slot b o e n hb hx;⟨sl,k b _ (ne b o e) q⟩,u.free,λb o e hx=>let⟨o',q⟩:=u.there b o e hx;⟨o',k b o' (ne b o e) q⟩,u.tups,u.frzs,u.tbls⟩
def HOk.sameBut{w:World}(x:HOk P w H h)(k:∀b o,b≠C->h.get? b=some o->h'.get? b=some o)(hC:H C=none):HOk P w H h':=λa o e=>by
 refine(x a o e).stay (λb u hb q=>k b u ?_ q) (λ_ z=>z) (λ_ _ z=>z);rcases hb with rfl|hb;·exact aP e hC
 ·exact aP hb hC
section
variable{elt:Expr}{ifs:List Expr}{px:Pos}{gt:Ev->R Bool}
structure CompOk(X:Cx)(scope:Scope)(x:Str)(N':List Str)(ix:List Nat):Prop where
 kind:scope.kind=.function
 cell:∀y∈scope.names,y.2≠.cell
 names:∀y∈scope.names,y.2=.local->scope.names.lookup y.1=some .local
 loc:scope.names.lookup x=some .local
 fr:∀y∈scope.names,y.2=.free->X.env.kindOf y.1=some .cell
 nd:N'.Nodup
 hd:N'[0]?=some x
 tl:N'.tail=ix.map λ(i:Nat)=>X.N.getD i Str.empty
 lt:∀i∈ix,i<X.N.length
 fre:∀y∈N'.tail,scope.names.lookup y=some .free/\(y,NameKind.free)∈scope.names
structure CompOkT(X:Cx)(scope:Scope)(n:Nat)(N':List Str)(ix:List Nat):Prop where
 kind:scope.kind=.function
 cell:∀y∈scope.names,y.2≠.cell
 names:∀y∈scope.names,y.2=.local->scope.names.lookup y.1=some .local
 fr:∀y∈scope.names,y.2=.free->X.env.kindOf y.1=some .cell
 le:n<=N'.length
 tl:N'.drop n=ix.map λ(i:Nat)=>X.N.getD i Str.empty
 lt:∀i∈ix,i<X.N.length
 fre:∀y∈N'.drop n,scope.names.lookup y=some .free/\(y,NameKind.free)∈scope.names
def CompOk.t(ok:CompOk X scope x N' ix):CompOkT X scope 1 N' ix:=
 ⟨ok.kind,ok.cell,ok.names,ok.fr,(List.getElem?_eq_some_iff.mp ok.hd).1,List.drop_one▸ok.tl,ok.lt,List.drop_one▸ok.fre⟩
def li{env:Env}(hk:env.scope.kind=.function):∀{names:List (Str×NameKind)}{x:Str},names.lookup x=some .free->env.kindOf x=some .cell->
  (names.map λ(n,k)=>if (k==NameKind.free && env.scope.kind==.function && env.kindOf n==some .cell)then (n,NameKind.cell)else (n,k)).lookup x=some .cell
 | [],_,h,_=>by simp at h
 | (n,k)::r,x,h,hc=>by
  have ih:=@li env hk r x;show List.lookup x ((if (k==NameKind.free && env.scope.kind==.function && env.kindOf n==some .cell)=true then (n,NameKind.cell)else (n,k))::_)=_;cases hx:x==n with
  |true=>simp only[List.lookup_cons,hx]at h;cases h;have e:=eq_of_beq hx;subst e;rw[if_pos (by rw[hk,hc];rfl)];simp[List.lookup_cons]
  |false=>
   simp only[List.lookup_cons,hx]at h;by_cases hc':(k==NameKind.free && env.scope.kind==.function && env.kindOf n==some .cell)=true;·rw[if_pos hc'];simp only[List.lookup_cons,hx];exact ih h hc
   ·rw[if_neg hc'];simp only[List.lookup_cons,hx];exact ih h hc
def AD{n:Nat}(h:(de n ix ρ)[j]?=some (some (.val d))):∃k i,j=k+n/\ix[k]?=some i/\ρ[i]?=some (some (.val d)):=by
 unfold de at h;by_cases hj:j<n;·rw[List.getElem?_append_left (by simpa using hj),List.getElem?_replicate,if_pos hj]at h;cases h
 ·rw[List.getElem?_append_right (by simpa using Nat.not_lt.1 hj),List.length_replicate,List.getElem?_map]at h;cases e:ix[j - n]? with
  |none=>rw[e]at h;cases h
  |some i=>
   rw[e]at h;refine⟨j - n,i,by omega,e,?_⟩;simp only[Option.map_some,Option.some.injEq]at h;split at h;·rename_i d' e';cases h;exact e'
   ·cases h
noncomputable def fK(n:Nat)(ix:List Nat)(σ:St):St:=List.replicate n none++ix.map λ(i:Nat)=>(σ[i]?).join
def jZ{n:Nat}:NoOwn (de n ix ρ):=λj x h=>by
 unfold de at h;by_cases hj:j<n;·rw[List.getElem?_append_left (by simpa using hj),List.getElem?_replicate,if_pos hj]at h;cases h
 ·rw[List.getElem?_append_right (by simpa using Nat.not_lt.1 hj),List.length_replicate,List.getElem?_map]at h;cases e:ix[j - n]? with
  |none=>rw[e]at h;cases h
  |some i=>
   rw[e]at h;simp only[Option.map_some,Option.some.injEq]at h;split at h;·cases h;exact⟨_,rfl⟩
   ·cases h
def pU{K:PySem.W.Frag}(st:StE K G H σ ρ)(n:Nat)(ix:List Nat):StE K G H (fK n ix σ) (de n ix ρ):=by refine⟨st.sub,by simp[de,fK],λj d h=>?_,λj m C p fs h=>absurd h (NoOwn.obj jZ j m C p fs)⟩;obtain⟨k,i,rfl,e1,e2⟩:=AD h;obtain⟨v,h1,h2⟩:=st.val i d e2;refine⟨v,?_,h2⟩;unfold fK;rw[List.getElem?_append_right (by simp),List.length_replicate,Nat.add_sub_cancel,List.getElem?_map,e1];simp[h1]
def Bg{h₁:Heap}{tk:Nat}{m:Str->Option Value}{n:Nat}(ok:CompOkT X scope n N' ix)(hcalm:X.calm=true)(I:Inv X pins σ H s)(hf:∀b∈fp,lN X pins H b)(hfl:∀b∈fp,b<s.heap.objs.size)(hC:s.heap.objs.size<=C)(hn:h₁.Ns C m)(old:∀b o,s.heap.get? b=some o->h₁.get? b=some o)(un:Un (frs X.stack) fp H H' s.heap h₁)(hok:HOk X.prog X.w H' h₁)(hfC:H' C=none)(hfc:∀c:Addr,c<s.heap.objs.size->H c=none->H' c=none):
  Inv (bK X N' scope C s H fp) [] (fK n ix σ) H' { s with heap:=h₁,toks:=tk }:=by
 have cl:∀y c,(sM X.env scope.names []).lookup y=some c->X.env.cells.lookup y=some c:=pI scope.names [] (λy c h=>by simp at h);have nlt:N'.length=n+ix.length:=by have h1:=congrArg List.length ok.tl;rw[List.length_drop,List.length_map]at h1;have:=ok.le;omega
 refine⟨⟨I.ok.mod,by show(relabel scope X.env).kind=_;exact ok.kind,I.ok.glob,I.ok.blt,hC,?_,?_,?_,I.ok.hd,I.ok.frames,.inl rfl,?_,I.bs,Nat.le_trans I.ok.bsz I.sz,?_,?_,I.stack,I.stkFree,I.ok.tabs.un I.base⟩,rfl,I.bare,un,?_,?_,hfC,?_,?_,hok,?_⟩;·intro y z c h1 h2;exact I.ok.inj y z c (cl y c h1) (cl z c h2)
 ·intro y hy;have h1:(y,NameKind.free)∈scope.names:=by
   have hy':(relabel scope X.env).names.lookup y=some .cell\/(relabel scope X.env).names.lookup y=some .free:=hy;have mem:∀k,(relabel scope X.env).names.lookup y=some k->(k=.cell\/k=.free)->(y,NameKind.free)∈scope.names:=λk e hk=>by
    have hm:=PySem.mem_of_lookup e;obtain⟨⟨n,k'⟩,hm1,hm2⟩:=List.mem_map.mp hm;dsimp only at hm2;split at hm2
    ·rename_i hc;cases hm2;have:k'=.free:=by have:=(Bool.and_eq_true _ _▸(Bool.and_eq_true _ _▸hc).1).1;simpa using this
     rw[<- this];exact hm1
    ·cases hm2;rcases hk with rfl|rfl;·exact absurd rfl (ok.cell _ hm1)
     ·exact hm1
   rcases hy' with h|h;·exact mem _ h (.inl rfl)
   ·exact mem _ h (.inr rfl)
  have hc:=I.ok.has y (.inl (ok.fr _ h1 rfl));exact lG scope.names [] y (.inr ⟨h1,hc⟩)
 ·intro y c hfn;cases hfn
 ·intro b hb;obtain⟨f0,f1,f2,f3,f4,f5⟩:=hf b hb;exact⟨λz=>absurd (hfl b hb) (by rw[z];exact Nat.not_lt.mpr hC),λy c h=>f4 y c (cl y c h)⟩
 ·intro b o e hb;obtain⟨f0,f1,f2,f3,f4,f5⟩:=hf b hb;rcases f3 with f3|f3;·exact I.ok.noex b o e f3
  ·exact absurd (Heap.lt_size (I.ok.bs b o e).1) (Nat.not_lt.mpr f3)
 ·intro b hb hb';obtain⟨f0,f1,f2,f3,f4,f5⟩:=hf b hb;rcases List.mem_cons.mp (I.stkSub b hb')with e|e;·exact f1 e
  ·exact f2 e
 ·refine⟨m,hn,λi y v h1 h2 h3=>?_⟩;have h1:N'[i]?=some y:=h1;have h2:(fK n ix σ)[i]?=some (some v):=h2;by_cases hi:i<n;·unfold fK at h2;rw[List.getElem?_append_left (by simpa using hi),List.getElem?_replicate,if_pos hi]at h2;cases h2
  ·unfold fK at h2;rw[List.getElem?_append_right (by simpa using Nat.not_lt.1 hi),List.length_replicate,List.getElem?_map]at h2;cases e:ix[i - n]? with
   |none=>rw[e]at h2;cases h2
   |some i0=>
    rw[e]at h2;have h2':σ[i0]?=some (some v):=by
     cases q:σ[i0]? with
     |none=>rw[Option.map_some,q]at h2;cases h2
     |some z=>rw[Option.map_some,q]at h2;have:=Option.some.inj h2;rw[<- this];rfl
    have ht:(N'.drop n)[i - n]?=some y:=by rw[List.getElem?_drop,Nat.add_sub_cancel' (Nat.not_lt.1 hi)];exact h1
    have hy:X.N[i0]?=some y:=by have ht2:=ht;rw[ok.tl,List.getElem?_map,e]at ht2;have hl:=ok.lt i0 (List.mem_of_getElem? e);have q:=Option.some.inj ht2;rw[List.getElem?_eq_getElem hl];rw[<- q];show some X.N[i0]=some (X.N.getD i0 Str.empty);rw[List.getD_eq_getElem?_getD,List.getElem?_eq_getElem hl];rfl
    obtain⟨fr1,fr2⟩:=ok.fre y (List.mem_of_getElem? ht);have kc:=ok.fr _ fr2 rfl;obtain⟨m0,hn0,hl⟩:=I.loc;obtain⟨u,ru,lk⟩:=hl i0 y v hy h2' (.inr (.inl kc));refine⟨u,ru,.inr ⟨.inl (li I.ok.kind fr1 kc),?_⟩⟩;rcases lk with⟨z,_⟩|⟨_,c,hc,hcell⟩;·rw[kc]at z;cases z
    ·obtain⟨c',hc'⟩:=lG scope.names [] y (.inr ⟨fr2,c,hc⟩);have:=cl y c' hc';rw[hc]at this;cases this;exact⟨c,hc',hcell.keeps old⟩
 ·intro y c h;obtain⟨v,q⟩:=I.cell y c (cl y c h);exact⟨v,q.keeps old⟩
 ·intro y c h;obtain⟨v,q⟩:=I.cell y c (cl y c h);exact hfc c q.lt (I.freeC y c (cl y c h))
 ·intro p hp;exact absurd (show p∈([]:List (Addr×Obj)) from hp) (by simp)
 ·show(fK n ix σ).length=N'.length;rw[nlt];simp[fK]
def xo{prog:Program}{w:World}{A:Around}{R':Result->Shared->Prop}{elt target:Expr}{ifs:List Expr}{it acc:Value}{env:Env}(I:Nat->Shared->Prop)(turn:∀n s,I n s->wpAny (model prog w) A (pyNext it) (λr s₁=>match r with
 |none=>R' (.ok .next) s₁
 |some v=>wpAny (model prog w) A (letOwnedTupleGo target it v) (λ_ s₁'=>wpAny (model prog w) A (assign target env v) (λ_ s₂=>
 wpAny (model prog w) A (forIn ifs true λc r=>if r=true then do let ok <- isTrue c env (eval c env);pure (ForInStep.yield ok)else pure (ForInStep.yield r)) (λok s₃=>
 if ok=true then wpAny (model prog w) A (eval elt env) (λx s₄=>
 wpAny (model prog w) A (call (.builtin "list.append") [acc,x]) (λ_ s₅=>∃m,m<n/\I m s₅) (λ_ _=>False) s₄) (λ_ _=>False) s₃
 else ∃m,m<n/\I m s₃) (λ_ _=>False) s₂) (λ_ _=>False) s₁') (λ_ _=>False) s₁) (λ_ _=>False) s)(n:Nat)(h:I n s):
  codeAny (model prog w) A (.compLoop (.ListComp elt [⟨target,iter,ifs,0⟩] scope pos) 0 it acc env) R' s:=by
 refine codeAny_loop rfl I (λn s hI=>?_) n h;show wpAny _ A ((compTurn (.ListComp elt [⟨target,iter,ifs,0⟩] scope pos) 0 it acc env).onRaise (λx=>do noteFrame x env;theTreesLotGoes x)) _ _ s;refine wpAny_noted ?_;rw[compTurn_list];refine wpAny_bind (wpAny_standAt (wpAny_bind (wpAny_mono (turn n s hI) (λr s₁ h₁=>?_) λ_ _ z=>z.elim)));cases r with
 |none=>exact wpAny_pure h₁
 |some v=>
  refine wpAny_bind (wpAny_mono h₁ (λ_ s₁' h₁'=>?_) λ_ _ z=>z.elim);refine wpAny_bind (wpAny_mono h₁' (λ_ s₂ h₂=>wpAny_bind (wpAny_mono h₂ (λok s₃ h₃=>?_) λ_ _ z=>z.elim)) λ_ _ z=>z.elim);cases ok with
  |false=>exact wpAny_pure ⟨rfl,h₃⟩
  |true=>exact wpAny_bind (wpAny_bind (wpAny_mono h₃ (λx s₄ h₄=>wpAny_bind (wpAny_mono h₄ (λ_ s₅ h₅=>wpAny_pure (wpAny_pure ⟨rfl,h₅⟩)) λ_ _ z=>z.elim)) λ_ _ z=>z.elim))
def qt:∀d ρ ρ',lI i d ρ=.ok ρ'->NoOwn ρ->NoOwn ρ':=by
 intro d ρ ρ' e h j x q;have e':ρ.set i (some (.val d))=ρ':=R.ok.inj e;rw[<- e',List.getElem?_set]at q;split at q
 ·split at q;·cases q;exact⟨d,rfl⟩
  ·cases q
 ·exact h j x q
def jF{n : Nat}{tn : Nat -> Heap -> Prop}{J : It}{items : List D}{Q : VK}{RR : Value -> Addr -> Result -> Shared -> Prop}{E : Value -> Shared -> Prop}(ok : CompOkT X scope n N' ix)(hcalm : X.calm = true)(hg : ∀C s₂ H₂ fp, PGF (bK X N' scope C s₂ H₂ fp) tgt asg)(hown : ∀d ρ ρ', asg d ρ = .ok ρ' -> (NoOwn ρ) -> NoOwn ρ')(he : ∀C s₂ H₂ fp, PF (bK X N' scope C s₂ H₂ fp) elt ge)(ht : ∀C s₂ H₂ fp, PTs (bK X N' scope C s₂ H₂ fp) ifs gt)(I : Inv X pins σ H s)(T : Turn X.prog X.w X.K tgt J fp it tn)(st0 : tn 0 s.heap)(hf : ∀b ∈ fp, lN X pins H b)(st : StE X.K G H σ ρ)(hi : ItOk X.K G J items)(h : (eA asg gt ge items (de n ix ρ) >>= λds => if ds.length <= sizeLine then R.ok ds else .no).post (tR X.K G H Q) (Exx X σ G H))(hR : ∀(Dd C : Addr)(s' : Shared)(m : Str -> Option Value)(vs : List V)(G' H' : Hp), Up G H G' H' -> H' Dd = none -> C≠Dd -> (∀ds, Reps X.K G' vs ds -> True) -> Q (.ref Dd) (upd H' Dd (.lst vs)) -> s'.heap.Ns C m -> s'.os = s.os -> AllBare s'.gens -> H' C = none -> s.heap.objs.size <= C ->
 Un (frs X.stack) fp H (upd H' Dd (.lst vs)) s.heap s'.heap -> HOk X.prog X.w (upd H' Dd (.lst vs)) s'.heap -> RR (.ref Dd) C (.ok .next) s'):
    wpAny (model X.prog X.w) X.A (newList []) (λacc s₃ => wpAny (model X.prog X.w) X.A (newFunctionEnv scope X.env.globals (sM X.env scope.names []) [] X.env.qual none .none (some X.env)) (λcenv s₄ =>codeAny (model X.prog X.w) X.A (.compStart (.ListComp elt [⟨tgt, iter, ifs, 0⟩] scope pos) 0 (.ref it) acc { cenv with scope := relabel scope X.env }) (RR acc cenv.locals) s₄) E s₃) E s := by
  have hfl : ∀b ∈ fp, b < s.heap.objs.size := λb hb => let⟨o, e, _⟩ := T.obj 0 s.heap st0 b hb; Heap.lt_size e;refine wpAny_newObj_type (wpAny_newFunctionEnv ok.cell (by intro y hy; simp at hy) (λh₁ hns₁ hsb₁ => ?_) ok.kind);dsimp only at hns₁ hsb₁⊢;generalize hH2 : s.heap.push { cls := .type "list", dict := none, data := .seq ([] : List Value).toArray } = Hq at hns₁ hsb₁⊢;have hC : Hq.objs.size = s.heap.objs.size + 1 := by rw[<- hH2, Heap.size_push]
  have hDC : s.heap.objs.size≠Hq.objs.size := by rw[hC]; exact Nat.ne_of_lt (Nat.lt_succ_self _)
  have hCle : s.heap.objs.size <= Hq.objs.size := by rw[hC]; exact Nat.le_succ _
  have old : ∀b o, s.heap.get? b = some o -> h₁.get? b = some o := λb o e =>
    hsb₁.extBut b o (by rw[hC]; exact Nat.ne_of_lt (Nat.lt_succ_of_lt (Heap.lt_size e))) (Heap.get?_push_of_some _ (hH2▸Heap.get?_push_of_some _ e));have hacc : h₁.get? s.heap.objs.size = some { cls := .type "list", data := .seq ([] : List Value).toArray } := hsb₁.extBut _ _ hDC (Heap.get?_push_of_some _ (hH2▸Heap.get?_push_size _ rfl));have hD0 : H s.heap.objs.size = none := I.fresh;have hC0 : H Hq.objs.size = none := I.hok.fresh hCle;have st0' : tn 0 h₁ := T.keep 0 _ _ st0 λb hb o e => old b o e;have I0 : ∀tk, Inv (bK X N' scope Hq.objs.size s H fp) [] (fK n ix σ) (upd H s.heap.objs.size (.lst [])) { s with heap := h₁, toks := tk } := λtk => by
    refine Bg ok hcalm I hf hfl hCle hns₁ old (Un.laid old (Nat.le_refl _) hD0) (I.hok.laid old (Nat.le_refl _) ⟨Nat.zero_le _, [], 0, .nil, hacc⟩) (by rw[aH hDC.symm]; exact hC0) λc hc e => ?_;rw[aH (Nat.ne_of_lt hc)]; exact e
  have loop : ∀tk, codeAny (model X.prog X.w) X.A (.compLoop (.ListComp elt [⟨tgt, iter, ifs, 0⟩] scope pos) 0 (.ref it) (.ref s.heap.objs.size) (compEnvC scope (sM X.env scope.names []) Hq.objs.size X.env))
      (RR (.ref s.heap.objs.size) Hq.objs.size) { s with heap := h₁, toks := tk } := λtk => by
    have fpk : ∀{pins' : List (Addr × Obj)}{σ' : St}{H' : Hp}{s' : Shared}, Inv (bK X N' scope Hq.objs.size s H fp) pins' σ' H' s' -> pins' = [] -> (∀b ∈ fp, H' b = none) -> ∀b ∈ fp, lN (bK X N' scope Hq.objs.size s H fp) pins' H' b := λI' e hn b hb =>⟨hn b hb, (I'.ok.exf b hb).1, I'.ok.exfs b hb, .inl hb, (I'.ok.exf b hb).2, by subst e; intro p hp; exact absurd (show p ∈ ([] : List (Addr × Obj)) from hp) (by simp)⟩
    refine xo (λnn s' => ∃(i : Nat)(σ' : St)(G' H' : Hp)(ρ' : Ev)(vs : List V)(ys : List D), nn = items.length - i /\ i <= items.length /\ Inv (bK X N' scope Hq.objs.size s H fp) [] σ' H' s' /\ tn i s'.heap /\ (∀b ∈ fp, H' b = none) /\
      H' s.heap.objs.size = some (.lst vs) /\ G' s.heap.objs.size = none /\ Up G H G' H' /\ StE X.K G' H' σ' ρ' /\ (NoOwn ρ') /\ Reps X.K G' vs ys /\
      (eA asg gt ge (items.drop i) ρ' >>= λzs => if (ys ++ zs).length <= sizeLine then R.ok (ys ++ zs)else .no).post (tR X.K G H Q) (Exx X σ G H)) ?_ items.length
      ⟨0, fK n ix σ, G, upd H s.heap.objs.size (.lst []), de n ix ρ, [], [], by simp, Nat.zero_le _, I0 tk, st0', λb hb => by rw[aH (Nat.ne_of_lt (hfl b hb))]; exact(hf b hb).1, aS, st.sub.free hD0,
        ⟨λa o e => by rw[aH (aP e (st.sub.free hD0))]; exact st.sub a o e, .refl _, .into hD0, λ_ _ e => .inl e⟩,
        ⟨λa o e => by rw[aH (aP e (st.sub.free hD0))]; exact st.sub a o e, (pU st n ix).len, (pU st n ix).val, λj m C p fs h => absurd h (NoOwn.obj jZ j m C p fs)⟩, jZ, .nil, by simpa using h⟩;rintro nn s' ⟨i, σ', G', H', ρ', vs, ys, rfl, hil, I', tn', fr', hD', gD', up', st', no', rp', h'⟩;have hIt := hi i G' H' up'.gg st'.sub;by_cases hlt : i < items.length
    ·
      have hd : items.drop i = items[i] :: items.drop (i + 1) := List.drop_eq_getElem_cons hlt;rw[hd]at h';obtain⟨go, yl⟩ := hIt.1 items[i] (by simp[hlt]);refine wpAny_mono (T.item (bK X N' scope Hq.objs.size s H fp) rfl rfl rfl hcalm i [] s' σ' H' (λ_ _ => False) I' (fpk I' rfl fr') tn' go) (λr s1 ⟨u, hr, h1⟩ => ?_) λ_ _ z => z;subst hr;refine wpAny_mono h1 (λ_ s2 ⟨x2, H2, I2, r2, y2, tn2, fr2⟩ => ?_) λ_ _ z => z;obtain⟨G2, up2, rep2⟩ := yl x2 H2 y2;have I2p := I2.pinned (fpk I2 rfl fr2) (T.obj _ _ tn2);have st2 : StE X.K G2 H2 σ' ρ' := st'.up up2;have sr2 : StR X.K G2 H2 G2 H2 σ' ρ' := ⟨st2, up2.sub, .refl up2.sub, λj ds e => absurd e (no'.own j ds), λj k ds es l e => absurd e (no'.own j ds), no'.ob⟩
      have ea : ∃ρ1, asg items[i] ρ' = .ok ρ1 := by
        unfold eA at h';cases q : asg items[i] ρ' with
        |ok k => exact⟨k, rfl⟩
        |_ => rw[q]at h'; exact h'.elim
      obtain⟨ρ1, ea⟩ := ea;unfold eA at h';rw[ea]at h';simp only[fw, R.ok_bind]at h';refine wpAny_mono (hg Hq.objs.size s H fp _ s2 σ' H2 x2 u (λσ3 H3 => H3 = H2 /\ StR X.K G2 H2 G2 H2 σ3 ρ1) I2p r2
        ⟨G2, H2, G2, ρ', items[i], _, sr2, rep2, ea, λσ3 q => ⟨rfl, q⟩⟩) (λ_ s3 ⟨σ3, H3, I3, e3, sr3⟩ => ?_) λ_ _ z => z;subst e3;have no3 := hown _ _ _ ea no';have hD2 : H3 s.heap.objs.size = some (.lst vs) := up2.hh _ _ hD';have gD2 : G2 s.heap.objs.size = none := by
        cases q : G2 s.heap.objs.size with
        |none => rfl
        |some o =>
          rcases up2.fr _ _ q with z|z;· rw[gD']at z; cases z
          · rw[hD']at z; cases z
      have ek : ∃k, gt ρ1 = .ok k := by
        cases q : gt ρ1 with
        |ok k => exact⟨k, rfl⟩
        |_ => rw[q]at h'; exact h'.elim
      obtain⟨k, ek⟩ := ek;rw[ek]at h';simp only[fw, R.ok_bind]at h';refine wpAny_mono (ht Hq.objs.size s H fp _ s3 σ3 H3 (λb H4 => b = k /\ ∃G4, Up G2 H3 G4 H4) I3 ⟨G2, _, sr3.e, by rw[ek]; exact λb G4 H4 u4 e4 => ⟨e4, G4, u4⟩⟩) (λb s4 ⟨H4, I4, eb, G4, up4⟩ => ?_) λ_ _ z => z;subst eb;have next : ∀{H7 : Hp}{s7 : Shared}{G7 : Hp}{vs7 : List V}{ys7 : List D}, Inv (bK X N' scope Hq.objs.size s H fp) ([] ++ rK fp s2.heap) σ3 H7 s7 -> H7 s.heap.objs.size = some (.lst vs7) -> G7 s.heap.objs.size = none -> Up G H G7 H7 -> StE X.K G7 H7 σ3 ρ1 -> Reps X.K G7 vs7 ys7 ->
          (eA asg gt ge (items.drop (i + 1)) ρ1 >>= λzs => if (ys7 ++ zs).length <= sizeLine then R.ok (ys7 ++ zs)else .no).post (tR X.K G H Q) (Exx X σ G H) ->
          ∃m, m < items.length - i /\ ∃(i : Nat)(σ' : St)(G' H' : Hp)(ρ' : Ev)(vs : List V)(ys : List D), m = items.length - i /\ i <= items.length /\ Inv (bK X N' scope Hq.objs.size s H fp) [] σ' H' s7 /\ tn i s7.heap /\ (∀b ∈ fp, H' b = none) /\
            H' s.heap.objs.size = some (.lst vs) /\ G' s.heap.objs.size = none /\ Up G H G' H' /\ StE X.K G' H' σ' ρ' /\ (NoOwn ρ') /\ Reps X.K G' vs ys /\
            (eA asg gt ge (items.drop i) ρ' >>= λzs => if (ys ++ zs).length <= sizeLine then R.ok (ys ++ zs)else .no).post (tR X.K G H Q) (Exx X σ G H) := λ{H7 s7 G7 vs7 ys7} I7 hD7 gD7 up7 st7 rp7 h7 => by
        have pin : ∀b ∈ fp, ∀o, s2.heap.get? b = some o -> s7.heap.get? b = some o /\ H7 b = none := λb hb o e => by have := I7.pin (b, o) (List.mem_append_right _ (List.mem_append_right _ (kP hb e)));exact⟨this.1, this.2.1⟩
        refine⟨items.length - (i + 1), by omega, i + 1, σ3, G7, H7, _, vs7, ys7, rfl, hlt, I7.unpinned, T.keep _ _ _ tn2 λb hb o e => (pin b hb o e).1, λb hb => ?_, hD7, gD7, up7, st7, no3, rp7, h7⟩;obtain⟨o, e, _⟩ := T.obj _ _ tn2 b hb;exact(pin b hb o e).2
      have hD4 : H4 s.heap.objs.size = some (.lst vs) := up4.hh _ _ hD2;have gD4 : G4 s.heap.objs.size = none := by
        cases q : G4 s.heap.objs.size with
        |none => rfl
        |some o =>
          rcases up4.fr _ _ q with z|z;· rw[gD2]at z; cases z
          · rw[hD2]at z; cases z
      cases b with
      |false =>simp only[Bool.false_eq_true, if_false]at h'⊢;exact next I4 hD4 gD4 ((up'.trans up2).trans up4) (sr3.e.up up4) ((rp'.mono up2.gg).mono up4.gg) h'
      |true =>
        simp only[if_true]at h'⊢;have ex : ∃y, ge ρ1 = .ok y := by
          cases q : ge ρ1 with
          |ok y => exact⟨y, rfl⟩
          |_ => rw[q]at h'; exact h'.elim
        obtain⟨y, ey⟩ := ex;rw[ey]at h';simp only[fw, R.ok_bind]at h';refine wpAny_mono (he Hq.objs.size s H fp _ s4 σ3 H4 (λv H5 => ∃G5, Up G4 H4 G5 H5 /\ Rep X.K G5 v y) I4 ⟨G4, _, sr3.e.up up4, by rw[ey]; exact λv G5 H5 u5 r5 => ⟨G5, u5, r5⟩⟩) (λu5 s5 ⟨v5, H5, I5, r5, G5, up5, rep5⟩ => ?_) λ_ _ z => z;have hD5 : H5 s.heap.objs.size = some (.lst vs) := up5.hh _ _ hD4;have gD5 : G5 s.heap.objs.size = none := by
          cases q : G5 s.heap.objs.size with
          |none => rfl
          |some o =>
            rcases up5.fr _ _ q with z|z;· rw[gD4]at z; cases z
            · rw[hD4]at z; cases z
        have ups := ((up'.trans up2).trans up4).trans up5;rcases kL (asg := asg) (gt := gt) (ge := ge) (items.drop (i + 1)) ρ1 with⟨zs, ez⟩|ez
        · rw[ez]at h';simp only[R.ok_bind]at h';have hz : (ys ++ y :: zs).length <= sizeLine := by
            by_cases hz : (ys ++ y :: zs).length <= sizeLine;· exact hz
            · rw[if_neg hz]at h'; exact h'.elim
          have hvl : vs.length < sizeLine := by rw[rp'.length];rw[List.length_append, List.length_cons]at hz;omega
          refine wpAny_mono (mC (X := bK X N' scope Hq.objs.size s H fp) _ s5 σ3 H5 (.ref s.heap.objs.size) [v5] (.ref s.heap.objs.size) [u5] (λ_ H6 => H6 = upd H5 s.heap.objs.size (.lst (vs ++ [v5]))) I5 rfl (.cons r5 .nil)
            ⟨_, vs, v5, rfl, rfl, hD5, hvl, rfl⟩) (λ_ s6 ⟨_, H6, I6, _, e6⟩ => ?_) λ_ _ z => z;subst e6;have sub6 : Same G5 (upd H5 s.heap.objs.size (.lst (vs ++ [v5]))) := λa o e => by rw[aH (aP e gD5)]; exact up5.sub a o e
          refine next I6 aS gD5 ⟨sub6, ups.gg, λa o e => ?_, ups.fr⟩ ?_ (ys7 := ys ++ [y]) ((((rp'.mono up2.gg).mono up4.gg).mono up5.gg).append (.cons rep5 .nil)) ?_
          · rw[aH (aP e hD0)]; exact ups.hh a o e
          · exact⟨sub6, ((sr3.e.up up4).up up5).len, ((sr3.e.up up4).up up5).val, λj m C p fs h => absurd h (no3.obj j m C p fs)⟩
          · rw[ez];simp only[R.ok_bind, List.append_assoc, List.singleton_append];exact h'
        · rw[ez]at h'; exact h'.elim
    ·
      have hie : i = items.length := by omega
      subst hie;rw[List.drop_length]at h';unfold eA at h';simp only[R.ok_bind, List.append_nil]at h';refine wpAny_mono (T.done (bK X N' scope Hq.objs.size s H fp) rfl rfl rfl hcalm items.length [] s' σ' H' (λ_ _ => False) I' (fpk I' rfl fr') tn' (hIt.2 (Nat.le_refl _))) (λr s1 ⟨hr, I1⟩ => ?_) λ_ _ z => z;subst hr;have hz : ys.length <= sizeLine := by
        by_cases hz : ys.length <= sizeLine;· exact hz
        · rw[if_neg hz]at h'; exact h'.elim
      rw[if_pos hz]at h';have eH : upd (λa => if a = s.heap.objs.size then none else H' a) s.heap.objs.size (.lst vs) = H' := by
        funext a
        unfold upd;by_cases e : a = s.heap.objs.size;· subst e; rw[if_pos rfl]; exact hD'.symm
        · rw[if_neg e];show(if a = s.heap.objs.size then none else H' a) = _;rw[if_neg e]
      have hn : (λa => if a = s.heap.objs.size then none else H' a) s.heap.objs.size = none := by simp
      have upn : Up G H G' (λa => if a = s.heap.objs.size then none else H' a) := by
        refine⟨λa o e => ?_, up'.gg, λa o e => ?_, up'.fr⟩;· have : a≠s.heap.objs.size := aP e gD';simp only[this, if_false]; exact up'.sub a o e
        · have : a≠s.heap.objs.size := aP e hD0;simp only[this, if_false]; exact up'.hh a o e
      obtain⟨m1, hm1, _⟩ := I1.loc;refine hR s.heap.objs.size Hq.objs.size s1 m1 vs G' _ upn hn hDC.symm (λ_ _ => trivial) (h' _ vs G' _ upn hn rp') hm1 I1.os I1.bare ?_ hCle (by rw[eH]; exact I1.base) (by rw[eH]; exact I1.hok);have := I1.free;show(if Hq.objs.size = s.heap.objs.size then none else H' Hq.objs.size) = none;rw[if_neg hDC.symm]; exact this
  exact codeAny_compStart_list (loop _) (T.self X.A 0 _ _ _ st0' (loop _))

def xi{tn:Nat->Heap->Prop}{J:It}{items:List D}{Q:VK}{RR:Value->Addr->Result->Shared->Prop}{E:Value->Shared->Prop}(ok:CompOk X scope x N' ix)(hcalm:X.calm=true)(he:∀C s₂ H₂ fp,PF (bK X N' scope C s₂ H₂ fp) elt ge)(ht:∀C s₂ H₂ fp,PTs (bK X N' scope C s₂ H₂ fp) ifs gt)(I:Inv X pins σ H s)(T:Turn X.prog X.w X.K (.Name x px) J fp it tn)(st0:tn 0 s.heap)(hf:∀b∈fp,lN X pins H b)(st:StE X.K G H σ ρ)(hi:ItOk X.K G J items)(h:(fB gt ge items (gR ix ρ)>>=λds=>if ds.length<=sizeLine then R.ok ds else .no).post (tR X.K G H Q) (Exx X σ G H))(hR:∀(Dd C:Addr)(s':Shared)(m:Str->Option Value)(vs:List V)(G' H':Hp),Up G H G' H'->H' Dd=none->C≠Dd->(∀ds,Reps X.K G' vs ds->True)->Q (.ref Dd) (upd H' Dd (.lst vs))->s'.heap.Ns C m->s'.os=s.os->AllBare s'.gens->H' C=none->s.heap.objs.size<=C->
 Un (frs X.stack) fp H (upd H' Dd (.lst vs)) s.heap s'.heap->HOk X.prog X.w (upd H' Dd (.lst vs)) s'.heap->RR (.ref Dd) C (.ok .next) s'):
  wpAny (model X.prog X.w) X.A (newList []) (λacc s₃=>wpAny (model X.prog X.w) X.A (newFunctionEnv scope X.env.globals (sM X.env scope.names []) [] X.env.qual none .none (some X.env)) (λcenv s₄=>codeAny (model X.prog X.w) X.A (.compStart (.ListComp elt [⟨.Name x px,iter,ifs,0⟩] scope pos) 0 (.ref it) acc { cenv with scope:=relabel scope X.env }) (RR acc cenv.locals) s₄) E s₃) E s:=
 jF (n:=1) (asg:=lI 0) ok.t hcalm (λC s₂ H₂ fp=>fE (X:=bK X N' scope C s₂ H₂ fp) (pos:=px) 0 ok.nd ok.hd (.inl (lookup_relabel_local ok.loc)) (.inr (lookup_relabel_local ok.loc))) qt he ht I T st0 hf st hi h hR
def dM(ok:CompOk X scope x N' ix)(hcalm:X.calm=true)(hi:PIF X (.Name x px) iter gi)(he:∀C s₂ H₂ fp,PF (bK X N' scope C s₂ H₂ fp) elt ge)(ht:∀C s₂ H₂ fp,PTs (bK X N' scope C s₂ H₂ fp) ifs gt)(hs:∀x,foldedSetIterable iter X.env x=pure x:=by intro _;rfl):PFL X (.ListComp elt [⟨.Name x px,iter,ifs,0⟩] scope pos) (fy gi ix gt ge):=by
 intro pins s σ H Q I h;obtain⟨G,ρ,st,h⟩:=h;rw[eval_ListComp];refine wpAny_comprehension_free (use:=none) rfl hs (eN λy hy hy2=>I.ok.has y.1 (.inl (ok.fr y hy hy2))) ok.kind ok.names ?_;have t:tG X (λG J items=>ItOk X.K G J items) gi σ H (λJ H1=>∃G1 items,Up G H G1 H1/\StE X.K G1 H1 σ ρ/\ItOk X.K G1 J items/\(fB gt ge items (gR ix ρ)>>=λds=>if ds.length<=sizeLine then R.ok ds else .no).post (tR X.K G H Q) (Exx X σ G H)):=by
  refine⟨G,ρ,st,?_⟩;unfold fy at h;cases e:gi ρ with
  |ok items=>rw[e]at h;exact λJ G1 H1 u r=>⟨G1,items,u,st.up u,r,h⟩
  |ex C=>rw[e]at h;exact h
  |no=>rw[e]at h;exact h
 refine thn (hi pins s σ H _ I t) λv s1 h1=>thn h1 λitv s2 h2=>?_;obtain⟨it,fp,tn,J,H2,e,I2,T,st2,f2,G2,items,u2,sE2,iok,h2⟩:=h2;subst e;have h2':(fB gt ge items (gR ix ρ)>>=λds=>if ds.length<=sizeLine then R.ok ds else .no).post (tR X.K G2 H2 Q) (Exx X σ G2 H2):=
  h2.mono (λds q l vs G' H' u hl r=>q l vs G' H' (u2.trans u) hl r) λC q=>q.up u2;refine xi (iter:=iter) (pos:=pos) (RR:=λacc C=>compPost (model X.prog X.w) X.A X.xe none (EP X pins σ Q) acc C) ok hcalm he ht I2 T st2 f2 sE2 iok h2' ?_;intro Dd C s' m vs G' H' up hd hCD _ q hm hos hb hC hCl un hok;refine⟨m,hm,λh' hs'=>?_⟩;have I3:=I2.call' (H':=upd H' Dd (.lst vs)) (s':={ s' with heap:=h' }) (ch:=fp) hos (un.sameBut (λb o hbc e=>hs'.extBut b o hbc e) hCl) (hok.sameBut (λb o hbc e=>hs'.extBut b o hbc e) (by rw[aH hCD];exact hC)) hb λb hb'=>by
  obtain⟨f0,f1,f2',f3,f4,f5⟩:=f2 b hb';exact⟨f3,f1,f4,f5⟩
 exact⟨.ref Dd,_,I3,rfl,q⟩
end
inductive O where
 |nx (ρ:Ev)|rt (d:D)|re (d:D) (ρ:Ev)|bk (ρ:Ev)|ct (ρ:Ev)|ex (C:Addr) (ρ:Ev)|no
noncomputable def FlyS(X:Cx)(G₀ H₀:Hp)(ρ:Ev)(C:Addr)(e:Value)(s':Shared):Prop:=∃σ H₁ pins s₁ a,e=.ref a/\Inv X pins σ H₁ s₁/\
 ((∃G₁ h' vs,StR X.K G₀ H₀ G₁ H₁ σ ρ/\Heap.MadeExcOf s₁.heap h' a (.ref C) vs/\s'={ s₁ with heap:=h' })\/(∃G' H',Ft X.prog X.w X.stack H₁ s₁ a C H' s'/\StR X.K G₀ H₀ G' H' σ ρ)\/
  ∃G' H' L,X.env.frame=some L/\Dk X pins L H₁ s₁ a C H' s'/\StR X.K G₀ H₀ G' H' σ ρ)
def FlyS.of{H₀ G₁ H₁:Hp}{e:Value}(sr:StR X.K G₀ H₀ G₁ H₁ σ ρ)(f:L8 X σ G₁ H₁ C e s'):FlyS X G₀ H₀ ρ C e s':=by
 obtain⟨pins,s₁,a,e,I,way⟩:=f;refine⟨σ,H₁,pins,s₁,a,e,I,?_⟩;rcases way with⟨h',vs,m,z⟩|⟨G',H',fl,u⟩|⟨G',H',L,hL,fl,u⟩;·exact .inl ⟨G₁,h',vs,sr,m,z⟩
 ·exact .inr (.inl ⟨G',H',fl,sr.ups u⟩)
 ·exact .inr (.inr ⟨G',H',L,hL,fl,sr.ups u⟩)
def FlyS.map{A B A' B':Hp}{ρ':Ev}{e:Value}(f:FlyS X A B ρ C e s')(h:∀σ G H,StR X.K A B G H σ ρ->StR X.K A' B' G H σ ρ'):FlyS X A' B' ρ' C e s':=by
 obtain⟨σ,H₁,pins,s₁,a,e,I,way⟩:=f;refine⟨σ,H₁,pins,s₁,a,e,I,?_⟩;rcases way with⟨G₁,h',vs,sr,m,z⟩|⟨G',H',fl,sr⟩|⟨G',H',L,hL,fl,sr⟩;·exact .inl ⟨G₁,h',vs,h _ _ _ sr,m,z⟩
 ·exact .inr (.inl ⟨G',H',fl,h _ _ _ sr⟩)
 ·exact .inr (.inr ⟨G',H',L,hL,fl,h _ _ _ sr⟩)
noncomputable def jH(X:Cx)(G₀ H₀:Hp)(D:Ends)(o:O):Prop:=match o with
 |.nx ρ=>∀σ G H,StR X.K G₀ H₀ G H σ ρ->D.nx σ H
 |.rt d=>∀v G H,Up G₀ H₀ G H->Rep X.K G v d->D.rt v H
 |.re d ρ=>∀v σ G H,StR X.K G₀ H₀ G H σ ρ->Rep X.K G v d->D.rt v H
 |.bk ρ=>∀σ G H,StR X.K G₀ H₀ G H σ ρ->D.bk σ H
 |.ct ρ=>∀σ G H,StR X.K G₀ H₀ G H σ ρ->D.ct σ H
 |.ex C ρ=>∀e s',FlyS X G₀ H₀ ρ C e s'->X.xe e s'
 |.no=>False
noncomputable def tS(X:Cx)(G₀ H₀:Hp)(g:Ev->O):TS:=λD σ H=>∃G ρ,StR X.K G₀ H₀ G H σ ρ/\jH X G₀ H₀ D (g ρ)
noncomputable def PSF(X:Cx)(st:Stmt)(g:Ev->O):Prop:=∀G₀ H₀,PS X st (tS X G₀ H₀ g)
noncomputable def oM(X:Cx)(st:List Stmt)(g:Ev->O):Prop:=∀G₀ H₀,PSs X st (tS X G₀ H₀ g)
noncomputable def R.out{α:Type}(m:R α)(ρ:Ev)(k:α->O):O:=match m with
 |.ok a=>k a
 |.ex C=>.ex C ρ
 |.no=>.no
noncomputable def O.seq(o:O)(k:Ev->O):O:=match o with
 |.nx ρ=>k ρ
 |o=>o
section
variable{dj body a b:List Stmt}{e c:Expr}{g g1 g2:Ev->O}{ga:Ev->R D}{gt:Ev->R Bool}
def Exx.of{H₀:Hp}{D:Ends}(sr:StR X.K G₀ H₀ G H σ ρ)(h:jH X G₀ H₀ D (.ex C ρ)):Exx X σ G H C:=λe s' ⟨G1,H1,u,f⟩=>h e s' (.of (sr.ups u) f)
def AQ:oM X [] (λρ=>.nx ρ):=λG₀ H₀ pins s σ H D I h=>by
 obtain⟨G,ρ,sr,h⟩:=h
 try dsimp only at h
 exact FS pins s σ H D I (h σ G H sr)
def wT(h1:PSF X st g1)(h2:oM X dj g2):oM X (st::dj) (λρ=>(g1 ρ).seq g2):=λG₀ H₀ pins s σ H D I h=>by
 refine jN (h1 G₀ H₀) (h2 G₀ H₀) pins s σ H D I ?_;obtain⟨G,ρ,sr,h⟩:=h
 try dsimp only at h
 refine⟨G,ρ,sr,?_⟩;cases q:g1 ρ with
 |nx ρ'=>rw[q]at h;exact λσ' G' H' sr'=>⟨G',ρ',sr',h⟩
 |rt d=>rw[q]at h;exact h
 |re d ρ'=>rw[q]at h;exact h
 |bk ρ'=>rw[q]at h;exact h
 |ct ρ'=>rw[q]at h;exact h
 |ex C ρ'=>rw[q]at h;exact h
 |no=>rw[q]at h;exact h
def BW(he:PF X e ga):PSF X (.Return (some e) pos) (λρ=>(ga ρ).out ρ .rt):=λG₀ H₀ pins s σ H D I h=>by
 refine Af he pins s σ H D I ?_;obtain⟨G,ρ,sr,h⟩:=h
 try dsimp only at h
 refine⟨G,ρ,sr.e,?_⟩;cases q:ga ρ with
 |ok d=>rw[q]at h;exact λv G' H' u r=>h v G' H' (sr.up.trans u) r
 |ex C=>rw[q]at h;exact Exx.of sr h
 |no=>rw[q]at h;exact h
def Ah(he:PF X e ga)(hs:swapsWith e none pos.line X.env=pure false:=by rfl):PSF X (.Expr e pos) (λρ=>(ga ρ).out ρ λ_=>.nx ρ):=λG₀ H₀ pins s σ H D I h=>by
 refine jp he hs pins s σ H D I ?_;obtain⟨G,ρ,sr,h⟩:=h
 try dsimp only at h
 refine⟨G,ρ,sr.e,?_⟩;cases q:ga ρ with
 |ok d=>rw[q]at h;exact λv G' H' u r=>h σ G' H' (sr.ups u)
 |ex C=>rw[q]at h;exact Exx.of sr h
 |no=>rw[q]at h;exact h
def Ee(hc:PB X c gt)(ha:oM X a g1)(hb:oM X b g2):PSF X (.If c a b pos) (λρ=>(gt ρ).out ρ λk=>if k=true then g1 ρ else g2 ρ):=λG₀ H₀ pins s σ H D I h=>by
 refine Lw hc (ha G₀ H₀) (hb G₀ H₀) pins s σ H D I ?_;obtain⟨G,ρ,sr,h⟩:=h
 try dsimp only at h
 refine⟨G,ρ,sr.e,?_⟩;cases q:gt ρ with
 |ok k=>
  rw[q]at h;intro b' G' H' u r;subst r;cases b' with
  |true=>rw[if_pos rfl];exact⟨G',ρ,sr.ups u,by simpa[R.out]using h⟩
  |false=>rw[if_neg Bool.false_ne_true];exact⟨G',ρ,sr.ups u,by simpa[R.out]using h⟩
 |ex C=>rw[q]at h;exact Exx.of sr h
 |no=>rw[q]at h;exact h
def BD(he:PF X e ga)(hg:PGF X tg asg)(hs:swapsWithSole [tg] e pos.line X.env=pure false:=by rfl)(hw:swappedStores [tg] e X.env=pure none:=by rfl)(hn:∀d ρ C,asg d ρ≠.ex C:=by intro _ _ _ z;cases z)(h1:(assignEach [tg] X.env).map (·.2)=[assign tg X.env]:=by rfl):PSF X (.Assign [tg] e pos) (λρ=>(ga ρ).out ρ λd=>(asg d ρ).out ρ .nx):=λG₀ H₀ pins s σ H D I h=>by
 refine jf he hg hs hw h1 pins s σ H D I ?_;obtain⟨G,ρ,sr,h⟩:=h
 try dsimp only at h
 refine⟨G,ρ,sr.e,?_⟩;cases q:ga ρ with
 |ok d=>
  rw[q]at h;simp only[R.out]at h;intro v G' H' u r;cases q2:asg d ρ with
  |ok ρ'=>rw[q2]at h;exact⟨G₀,H₀,G',ρ,d,ρ',sr.ups u,r,q2,λσ' sr'=>h σ' G' H' sr'⟩
  |ex C=>exact absurd q2 (hn d ρ C)
  |no=>rw[q2]at h;exact h.elim
 |ex C=>rw[q]at h;exact Exx.of sr h
 |no=>rw[q]at h;exact h
def Ce(i:Nat){p:Pos}(hN:X.N.Nodup)(he:PF X e ga)(hi:X.N[i]?=some x:=by rfl)(hx:Loc X.env.scope x:=by first|exact Or.inl rfl|exact Or.inr rfl)(hs:swapsWithSole [.Name x p] e pos.line X.env=pure false:=by rfl)(hw:swappedStores [.Name x p] e X.env=pure none:=by rfl)(hf:X.fn x=true\/X.env.scope.names.lookup x=some .local:=by first|exact .inl rfl|exact .inr rfl):
  PSF X (.Assign [.Name x p] e pos) (λρ=>(ga ρ).out ρ λd=>.nx (ρ.set i (some (.val d)))):=BD he (fE i hN hi hx hf) hs hw
def StR.setOwn{K:PySem.W.Frag}{H₀:Hp}(s:StR K G₀ H₀ G H σ ρ){l:Addr}(hl:H l=none)(r:Reps K G vs ds)(i:Nat):
  StR K G₀ H₀ G (upd H l (.lst vs)) (σ.set i (some (.ref l))) (ρ.set i (some (.own ds))):=by
 have gl:G l=none:=s.e.sub.free hl;have sub:Same G (upd H l (.lst vs)):=λa o e=>by rw[aH (aP e gl)];exact s.e.sub a o e
 have get:∀(j:Nat) x,(ρ.set i (some (.own ds)))[j]?=some (some x)->(j=i/\x=.own ds/\i<σ.length)\/(j≠i/\ρ[j]?=some (some x)/\(σ.set i (some (.ref l)))[j]?=σ[j]?):=λj x h=>by
  by_cases e:i=j
  ·subst e;have hl:i<ρ.length:=by have:=(List.getElem?_eq_some_iff.mp h).1;simpa using this
   rw[List.getElem?_set_self hl]at h;exact .inl ⟨rfl,by injection (Option.some.inj h)with q;exact q.symm,by rw[s.e.len];exact hl⟩
  ·rw[List.getElem?_set_ne e]at h;exact .inr ⟨λz=>e z.symm,h,List.getElem?_set_ne e⟩
 have ob:ObSt K H₀ G (upd H l (.lst vs)) (σ.set i (some (.ref l))) (ρ.set i (some (.own ds))):=by
  obtain⟨ow,o1,o2⟩:=s.ob;have nl:∀{a:Addr}{o:HO},H a=some o->a≠l:=λe z=>by rw[z,hl]at e;cases e
  refine⟨λa=>if a=l then some (i,0)else ow a,λj es l' h1 h2=>?_,λj m C p fs h1=>?_⟩
  ·rcases get j _ h1 with⟨rfl,e,hj⟩|⟨_,e,e'⟩;·rw[List.getElem?_set_self hj]at h2;cases h2;exact if_pos rfl
   ·rw[e']at h2;obtain⟨l2,vs2,q1,q2,_⟩:=s.own j es e;rw[h2]at q1;cases q1;exact(if_neg (nl q2)).trans (o1 j es l' e h2)
  ·rcases get j _ h1 with⟨_,e,_⟩|⟨_,e,e'⟩;·cases e
   ·rw[e'];refine⟨(o2 j m C p fs e).1,(o2 j m C p fs e).2.keep ⟨λa t o _ q=>?_,.refl _,λa t o _ _ n=>n,λa t o q1 q2=>?_,λa o _ _ n=>n⟩⟩;·rw[aH (nl q)];exact q
    ·exact(if_neg (nl q2)).trans q1
 refine⟨⟨sub,by simp[s.e.len],λj d' h=>?_,ob.rd⟩,s.sub0,⟨sub,s.up.gg,λa o e=>?_,s.up.fr⟩,λj es h=>?_,λj k es fs l' h1 h2 h3 h4=>?_,ob⟩
 ·rcases get j _ h with⟨_,e,_⟩|⟨_,e,e'⟩;·cases e
  ·rw[e'];exact s.e.val j d' e
 ·rw[aH (aP (s.up.hh a o e) hl)];exact s.up.hh a o e
 ·rcases get j _ h with⟨rfl,e,hj⟩|⟨_,e,e'⟩;·cases e;exact⟨l,vs,List.getElem?_set_self hj,aS,gl,s.up.hh.free hl,r⟩
  ·obtain⟨l',vs',h1,h2,h3,h4,h5⟩:=s.own j es e;exact⟨l',vs',by rw[e'];exact h1,by rw[aH (aP h2 hl)];exact h2,h3,h4,h5⟩
 ·rcases get j _ h1 with⟨rfl,e,hj⟩|⟨nj,e,e'⟩
  ·rcases get k _ h2 with⟨rfl,f,_⟩|⟨nk,f,f'⟩;·rfl
   ·obtain⟨l2,vs2,q1,q2,_⟩:=s.own k fs f;rw[List.getElem?_set_self hj]at h3;rw[f',q1]at h4;cases h3;cases h4;rw[hl]at q2;cases q2
  ·rcases get k _ h2 with⟨rfl,f,hk⟩|⟨nk,f,f'⟩;·obtain⟨l2,vs2,q1,q2,_⟩:=s.own j es e;rw[List.getElem?_set_self hk]at h4;rw[e',q1]at h3;cases h3;cases h4;rw[hl]at q2;cases q2
   ·exact s.inj j k es fs l' e f (e'▸h3) (f'▸h4)
def BB(i:Nat){p:Pos}(hN:X.N.Nodup)(he:PFL X e gl)(hi:X.N[i]?=some x:=by rfl)(hx:Loc X.env.scope x:=by first|exact Or.inl rfl|exact Or.inr rfl)(hs:swapsWithSole [.Name x p] e pos.line X.env=pure false:=by rfl)(hw:swappedStores [.Name x p] e X.env=pure none:=by rfl)(hf:X.fn x=true\/X.env.scope.names.lookup x=some .local:=by first|exact .inl rfl|exact .inr rfl):
  PSF X (.Assign [.Name x p] e pos) (λρ=>(gl ρ).out ρ λds=>.nx (ρ.set i (some (.own ds)))):=λG₀ H₀ pins s σ H D I h=>by
 refine jf he (fR (i:=i) hN hi hx hf) hs hw rfl pins s σ H D I ?_;obtain⟨G,ρ,sr,h⟩:=h
 try dsimp only at h
 refine⟨G,ρ,sr.e,?_⟩;cases q:gl ρ with
 |ok ds=>rw[q]at h;exact λl vs G' H' u hl r=>h _ G' _ ((sr.ups u).setOwn hl r i)
 |ex C=>rw[q]at h;exact Exx.of sr h
 |no=>rw[q]at h;exact h
def StR.mut{K:PySem.W.Frag}{H₀:Hp}(s:StR K G₀ H₀ G H σ ρ){l:Addr}{es:List D}(e:ρ[i]?=some (some (.own ds)))(hs:σ[i]?=some (some (.ref l)))(r:Reps K G vs es):
  StR K G₀ H₀ G (upd H l (.lst vs)) σ (ρ.set i (some (.own es))):=by
 obtain⟨l0,vs0,h1,h2,h3,h4,h5⟩:=s.own i ds e;rw[hs]at h1;cases h1;have sub:Same G (upd H l (.lst vs)):=λa o e=>by rw[aH (aP e h3)];exact s.e.sub a o e
 have hl:i<ρ.length:=(List.getElem?_eq_some_iff.mp e).1;have get:∀(j:Nat) x,(ρ.set i (some (.own es)))[j]?=some (some x)->(j=i/\x=.own es)\/(j≠i/\ρ[j]?=some (some x)):=λj x h=>by
  by_cases e:i=j;·subst e;rw[List.getElem?_set_self hl]at h;exact .inl ⟨rfl,by injection (Option.some.inj h)with q;exact q.symm⟩
  ·rw[List.getElem?_set_ne e]at h;exact .inr ⟨λz=>e z.symm,h⟩
 have ob:ObSt K H₀ G (upd H l (.lst vs)) σ (ρ.set i (some (.own es))):=by
  obtain⟨ow,o1,o2⟩:=s.ob;have ol:=o1 i ds l e hs;refine⟨ow,λj fs l' q1 q2=>?_,λj m C p fs q1=>?_⟩
  ·rcases get j _ q1 with⟨rfl,_⟩|⟨nj,f1⟩;·exact o1 j ds l' e q2
   ·exact o1 j fs l' f1 q2
  ·rcases get j _ q1 with⟨_,e'⟩|⟨nj,f1⟩;·cases e'
   ·have ne:∀a t,ow a=some (j,t)->a≠l:=λa t q z=>by rw[z,ol]at q;cases q;exact nj rfl
    refine⟨(o2 j m C p fs f1).1,(o2 j m C p fs f1).2.keep ⟨λa t o q1 q=>?_,.refl _,λa t o _ _ n=>n,λa t o q1 _=>q1,λa o _ _ n=>n⟩⟩;·rw[aH (ne a t q1)];exact q
 refine⟨⟨sub,by simp[s.e.len],λj d' h=>?_,ob.rd⟩,s.sub0,⟨sub,s.up.gg,λa o e=>?_,s.up.fr⟩,λj fs h=>?_,λj k fs gs l' q1 q2 q3 q4=>?_,ob⟩
 ·rcases get j _ h with⟨_,e⟩|⟨_,e⟩;·cases e
  ·exact s.e.val j d' e
 ·rw[aH (aP e h4)];exact s.up.hh a o e
 ·rcases get j _ h with⟨rfl,e'⟩|⟨nj,e'⟩;·cases e';exact⟨l,vs,hs,aS,h3,h4,r⟩
  ·obtain⟨l',vs',p1,p2,p3,p4,p5⟩:=s.own j fs e';have:l'≠l:=λz=>by subst z;exact nj (s.inj j i fs ds l' e' e p1 hs)
   exact⟨l',vs',p1,by rw[aH this];exact p2,p3,p4,p5⟩
 ·rcases get j _ q1 with⟨rfl,_⟩|⟨nj,f1⟩
  ·rcases get k _ q2 with⟨rfl,_⟩|⟨nk,f2⟩;·rfl
   ·exact s.inj j k ds gs l' e f2 q3 q4
  ·rcases get k _ q2 with⟨rfl,_⟩|⟨nk,f2⟩;·exact s.inj j k fs ds l' f1 e q3 q4
   ·exact s.inj j k fs gs l' f1 f2 q3 q4
noncomputable def frz(i:Nat)(ρ:Ev):Ev:=match ρ[i]? with
 |some (some (.own ds))=>ρ.set i (some (.val (.lst false ds)))
 |_=>ρ
def StR.frzTo{K:PySem.W.Frag}{H₀:Hp}(s:StR K G₀ H₀ G H σ ρ)(i:Nat):∃G',StR K G₀ H₀ G' H σ (L2.frz i ρ)/\(G'=G\/∃l vs,G l=none/\G'=upd G l (.lst vs)):=by
 unfold L2.frz;split
 ·rename_i ds e;obtain⟨l,vs,h1,h2,h3,h4,h5⟩:=s.own i ds e;have hl:i<ρ.length:=(List.getElem?_eq_some_iff.mp e).1;have g0:G₀ l=none:=s.sub0.free h4;have into:Same G (upd G l (.lst vs)):=.into h3;have sub:Same (upd G l (.lst vs)) H:=λa o q=>by
   by_cases ea:a=l;·subst ea;rw[aS]at q;rw[<- q];exact h2
   ·rw[aH ea]at q;exact s.e.sub a o q
  have get:∀(j:Nat) x,(ρ.set i (some (.val (.lst false ds))))[j]?=some (some x)->(j=i/\x=.val (.lst false ds))\/(j≠i/\ρ[j]?=some (some x)):=λj x h=>by
   by_cases e:i=j;·subst e;rw[List.getElem?_set_self hl]at h;exact .inl ⟨rfl,by injection (Option.some.inj h)with q;exact q.symm⟩
   ·rw[List.getElem?_set_ne e]at h;exact .inr ⟨λz=>e z.symm,h⟩
  have ob:ObSt K H₀ (upd G l (.lst vs)) H σ (ρ.set i (some (.val (.lst false ds)))):=by
   obtain⟨ow,o1,o2⟩:=s.ob;have ol:=o1 i ds l e h1;refine⟨ow,λj fs l' q1 q2=>?_,λj m C p fs q1=>?_⟩
   ·rcases get j _ q1 with⟨_,e'⟩|⟨nj,f1⟩;·cases e'
    ·exact o1 j fs l' f1 q2
   ·rcases get j _ q1 with⟨_,e'⟩|⟨nj,f1⟩;·cases e'
    ·have ne:∀a t,ow a=some (j,t)->a≠l:=λa t q z=>by rw[z,ol]at q;cases q;exact nj rfl
     refine⟨(o2 j m C p fs f1).1,(o2 j m C p fs f1).2.keep ⟨λa t o _ q=>q,into,λa t o q1 _ n=>?_,λa t o q1 _=>q1,λa o _ _ n=>n⟩⟩;·rw[aH (ne a t q1)];exact n
  refine⟨upd G l (.lst vs),⟨⟨sub,by simp[s.e.len],λj d' h=>?_,ob.rd⟩,s.sub0,⟨sub,s.up.gg.trans into,s.up.hh,λa o q=>?_⟩,λj fs h=>?_,λj k fs gs l' q1 q2 q3 q4=>?_,ob⟩,.inr ⟨l,vs,h3,rfl⟩⟩
  ·rcases get j _ h with⟨rfl,e'⟩|⟨_,e'⟩;·cases e';exact⟨.ref l,h1,.lst aS (h5.mono into)⟩
   ·obtain⟨v,p1,p2⟩:=s.e.val j d' e';exact⟨v,p1,p2.mono into⟩
  ·by_cases ea:a=l;·subst ea;exact .inr h4
   ·rw[aH ea]at q;exact s.up.fr a o q
  ·rcases get j _ h with⟨_,e'⟩|⟨nj,e'⟩;·cases e'
   ·obtain⟨l',vs',p1,p2,p3,p4,p5⟩:=s.own j fs e';have:l'≠l:=λz=>by subst z;exact nj (s.inj j i fs ds l' e' e p1 h1)
    exact⟨l',vs',p1,p2,by rw[aH this];exact p3,p4,p5.mono into⟩
  ·rcases get j _ q1 with⟨_,e'⟩|⟨nj,f1⟩;·cases e'
   ·rcases get k _ q2 with⟨_,e'⟩|⟨nk,f2⟩;·cases e'
    ·exact s.inj j k fs gs l' f1 f2 q3 q4
 ·exact⟨G,s,.inl rfl⟩
def StR.frz{K:PySem.W.Frag}{H₀:Hp}(s:StR K G₀ H₀ G H σ ρ)(i:Nat):∃G',StR K G₀ H₀ G' H σ (L2.frz i ρ):=
 let⟨G',h,_⟩:=s.frzTo i;⟨G',h⟩
def yQ{sts:List Stmt}(i:Nat)(h:oM X sts g):oM X sts (λρ=>g (frz i ρ)):=λG₀ H₀ pins s σ H D I q=>by obtain⟨G,ρ,sr,q⟩:=q;obtain⟨G',sr'⟩:=sr.frz i;exact h G₀ H₀ pins s σ H D I ⟨G',_,sr',q⟩
noncomputable def ownAt(ρ:Ev)(i:Nat):R (List D):=match ρ[i]? with
 |some (some (.own ds))=>.ok ds
 |_=>.no
def ownAt.ok{k:List D->O}{D:Ends}{H₀:Hp}(h:jH X G₀ H₀ D ((ownAt ρ i).out ρ k)):∃ds,ρ[i]?=some (some (.own ds))/\jH X G₀ H₀ D (k ds):=by
 unfold ownAt at h;split at h;·rename_i ds e;exact⟨ds,e,h⟩
 ·exact h.elim
def uy(i:Nat){p ap cp:Pos}(he:PF X e ga)(hi:X.N[i]?=some x:=by rfl)(hv:Vis X.env.scope x:=by first|exact Or.inl rfl|exact Or.inr (Or.inl rfl))(hd:(x==("__debug__":Str))=false:=by decide)(hcd:(x==("__classdict__":Str))=false:=by decide)(hs1:starEach [e] X.env=(false,eval e X.env)::starEach [] X.env:=by rfl)(hbase:attributeBase (.Name x p) "append" X.env (eval (.Name x p) X.env)=eval (.Name x p) X.env:=by rfl)(hfew:((backTo cp (starEach [e] X.env)).all (λx=>!x.1) && (backToKw cp (keywordEach [] X.env)).all (λx=>x.1.isSome)
 && decide ([e].length+([]:List Keyword).length+(if ([]:List Keyword).isEmpty then 0 else 1)<30))=true:=by rfl)(hline:(ap.endLine==cp.line)=true:=by rfl)(hs:swapsWith (.Call (.Attribute (.Name x p) "append" ap) [e] [] cp) none pos.line X.env=pure false:=by rfl):
  PSF X (.Expr (.Call (.Attribute (.Name x p) "append" ap) [e] [] cp) pos) (λρ=>(ownAt ρ i).out ρ λds=>(ga ρ).out ρ λd=>if ds.length<sizeLine then .nx (ρ.set i (some (.own (ds++[d]))))else .no):=λG₀ H₀ pins s σ H D I h=>by
 refine jp (Cg PySem.F.plainAttrs_list PySem.F.slot_list_append PySem.F.type_list_append mC (dv hi hv hd hcd) (du he iy hs1) hbase hfew hline hs1 rfl) hs pins s σ H D I ?_;obtain⟨G,ρ,sr,h⟩:=h
 try dsimp only at h
 obtain⟨ds,e1,h⟩:=ownAt.ok h;obtain⟨l,vs,h1,h2,h3,h4,h5⟩:=sr.own i ds e1;refine⟨.ref l,h1,.inl ⟨rfl,vs,.of h2⟩,G,ρ,sr.e,?_⟩;cases q:ga ρ with
 |ok d=>
  rw[q]at h;simp only[R.out]at h;intro v G' H' u r;by_cases hz:ds.length<sizeLine;·rw[if_pos hz]at h;refine⟨l,vs,v,rfl,rfl,u.hh _ _ h2,by rw[h5.length];exact hz,h _ G' _ ?_⟩;exact(sr.ups u).mut e1 h1 ((h5.mono u.gg).append (.cons r .nil))
  ·rw[if_neg hz]at h;exact h.elim
 |ex C=>rw[q]at h;exact Exx.of sr h
 |no=>rw[q]at h;exact h
noncomputable def asL:D->R (List D)
 |.lst false xs=>.ok xs
 |_=>.no
noncomputable def eG(asg:D->Ev->R Ev)(g:Ev->O):List D->Ev->O
 | [],ρ=>.nx ρ
 |d::ds,ρ=>(asg d ρ).out ρ λρ1=>match g ρ1 with
  |.nx ρ2=>eG asg g ds ρ2
  |.ct ρ2=>eG asg g ds ρ2
  |.bk ρ2=>.nx ρ2
  |.rt d=>.rt d
  |.re d ρ2=>.re d ρ2
  |.ex C ρ2=>.ex C ρ2
  |.no=>.no
noncomputable def mix(H₀ G₁:Hp):Hp:=λa=>match G₁ a with
 |some o=>some o
 |none=>H₀ a
def qa{H₀ G₁:Hp}{a:Addr}(h:mix H₀ G₁ a=none):G₁ a=none/\H₀ a=none:=by
 unfold mix at h;cases q:G₁ a with
 |none=>rw[q]at h;exact⟨rfl,h⟩
 |some o=>rw[q]at h;cases h
section
variable{K:PySem.W.Frag}{H₀ G₁ H₁:Hp}
def StR.to(s:StR K G₀ H₀ G₁ H₁ σ ρ):StR K G₁ (mix H₀ G₁) G₁ H₁ σ ρ:=by
 refine⟨s.e,λa o e=>?_,⟨s.e.sub,.refl _,λa o e=>?_,λ_ _ e=>.inl e⟩,λi ds e=>?_,s.inj,?_⟩;·unfold mix;rw[e]
 ·unfold mix at e;cases q:G₁ a with
  |none=>rw[q]at e;exact s.up.hh a o e
  |some o'=>rw[q]at e;cases e;exact s.e.sub a o q
 ·obtain⟨l,vs,h1,h2,h3,h4,h5⟩:=s.own i ds e;exact⟨l,vs,h1,h2,h3,by unfold mix;rw[h3];exact h4,h5⟩
 ·obtain⟨ow,o1,o2⟩:=s.ob;exact⟨ow,o1,λi m C p fs e=>⟨(o2 i m C p fs e).1,(o2 i m C p fs e).2.keep ⟨λa t o _ q=>q,.refl _,λa t o _ _ n=>n,λa t o q1 _=>q1,λa o _ g n=>by unfold mix;rw[g];exact n⟩⟩⟩
def Up.back(u:Up G₀ H₀ G₁ H₁)(v:Up G₁ (mix H₀ G₁) G H):Up G₀ H₀ G H:=by
 refine⟨v.sub,u.gg.trans v.gg,λa o e=>?_,λa o e=>?_⟩
 ·cases q:G₁ a with
  |none=>exact v.hh a o (by unfold mix;rw[q];exact e)
  |some o'=>have h1:=u.sub a o' q;have h2:=u.hh a o e;rw[h1]at h2;cases h2;exact v.hh a o (by unfold mix;rw[q])
 ·rcases v.fr a o e with h|h;·exact u.fr a o h
  ·exact .inr (qa h).2
def StR.back(s0:Same G₀ H₀)(u:Up G₀ H₀ G₁ H₁)(s:StR K G₁ (mix H₀ G₁) G H σ ρ):StR K G₀ H₀ G H σ ρ:=
 ⟨s.e,s0,u.back s.up,λi ds e=>let⟨l,vs,h1,h2,h3,h4,h5⟩:=s.own i ds e;⟨l,vs,h1,h2,h3,(qa h4).2,h5⟩,s.inj,by
 obtain⟨ow,o1,o2⟩:=s.ob;exact⟨ow,o1,λi m C p fs e=>⟨(o2 i m C p fs e).1,(o2 i m C p fs e).2.keep ⟨λa t o _ q=>q,.refl _,λa t o _ _ n=>n,λa t o q1 _=>q1,λa o _ _ n=>(qa n).2⟩⟩⟩⟩
end
def CS(hp:PassesOwn (model X.prog X.w) X.A X.env X.xe)(hcalm:X.calm=true)(hi:PIF X tg iter gi)(hg:PGF X tg asg)(hb:oM X body g)(hs:∀x,foldedSetIterable iter X.env x=pure x:=by intro _;rfl)(hn:∀d ρ C,asg d ρ≠.ex C:=by intro _ _ _ z;cases z):PSF X (.For tg iter body [] pos) (λρ=>(gi ρ).out ρ λitems=>eG asg g items ρ):=λG₀ H₀ pins s σ H D I h=>by
 obtain⟨G,ρ,sr,h⟩:=h
 try dsimp only at h
 cases q:gi ρ with
 |ok items=>
  rw[q]at h;simp only[R.out]at h;have key:∀(J:It)(G1 H1:Hp),Up G H G1 H1->ItOk X.K G1 J items->∃W:Nat->Nat->St->Hp->Prop,(∃m,W 0 m σ H1)/\∀i m σ H,W i m σ H->
    (J.stop i H/\D.nx σ H)\/(J.go i H/\∃N:St->Hp->Prop,(∀σ' H',N σ' H'->∃m',m'<m/\W (i+1) m' σ' H')/\∀x H',J.yld i H x H'->(λv σ H Q=>∃G₀ H₀ G ρ d ρ',StR X.K G₀ H₀ G H σ ρ/\Rep X.K G v d/\asg d ρ=.ok ρ'/\∀σ',StR X.K G₀ H₀ G H σ' ρ'->Q σ' H) x σ H' λσ2 H2=>(λD σ H=>∃G₀ H₀,tS X G₀ H₀ g D σ H) { D with nx:=N,ct:=N,bk:=D.nx } σ2 H2):=by
   intro J G1 H1 u1 iok;have sr1:=sr.ups u1;refine⟨λi m σ' H'=>m=items.length - i/\i<=items.length/\∃G' ρ',StR X.K G1 (mix H₀ G1) G' H' σ' ρ'/\jH X G₀ H₀ D (eG asg g (items.drop i) ρ'),⟨items.length,by simp,Nat.zero_le _,G1,ρ,sr1.to,by simpa using h⟩,?_⟩;rintro i m σ' H' ⟨rfl,hil,G',ρ',sr',h'⟩;have hIt:=iok i G' H' sr'.up.gg sr'.e.sub;by_cases hlt:i<items.length
   ·have hd:items.drop i=items[i]::items.drop (i+1):=List.drop_eq_getElem_cons hlt;rw[hd]at h';obtain⟨go,yl⟩:=hIt.1 items[i] (by simp[hlt]);refine .inr ⟨go,λσ2 H2=>i+1<=items.length/\∃G2 ρ2,StR X.K G1 (mix H₀ G1) G2 H2 σ2 ρ2/\jH X G₀ H₀ D (eG asg g (items.drop (i+1)) ρ2),λσ2 H2 q2=>⟨items.length - (i+1),by omega,rfl,q2⟩,λx H2 y=>?_⟩;obtain⟨G2,up2,rep2⟩:=yl x H2 y;unfold eG at h';cases q2:asg items[i] ρ' with
    |ok ρ1=>
     rw[q2]at h';simp only[R.out]at h';refine⟨G1,mix H₀ G1,G2,ρ',items[i],ρ1,sr'.ups up2,rep2,q2,λσ3 sr3=>⟨G1,mix H₀ G1,G2,ρ1,sr3,?_⟩⟩;cases q3:g ρ1 with
     |nx ρ2=>rw[q3]at h';exact λσ4 G4 H4 sr4=>⟨hlt,G4,ρ2,sr4,h'⟩
     |ct ρ2=>rw[q3]at h';exact λσ4 G4 H4 sr4=>⟨hlt,G4,ρ2,sr4,h'⟩
     |bk ρ2=>rw[q3]at h';exact λσ4 G4 H4 sr4=>h' σ4 G4 H4 (sr4.back sr.sub0 sr1.up)
     |rt d=>rw[q3]at h';exact λv G4 H4 u4 r4=>h' v G4 H4 (sr1.up.back u4) r4
     |re d ρ2=>rw[q3]at h';exact λv σ4 G4 H4 sr4 r4=>h' v σ4 G4 H4 (sr4.back sr.sub0 sr1.up) r4
     |ex C ρ2=>rw[q3]at h';exact λe s' f4=>h' e s' (f4.map λσ4 G4 H4 sr4=>sr4.back sr.sub0 sr1.up)
     |no=>rw[q3]at h';exact h'
    |ex C=>exact absurd q2 (hn _ _ C)
    |no=>rw[q2]at h';exact h'.elim
   ·have hie:i=items.length:=by omega
    subst hie;rw[List.drop_length]at h';exact .inl ⟨hIt.2 (Nat.le_refl _),h' σ' G' H' (sr'.back sr.sub0 sr1.up)⟩
  have hb':PSs X body (λD σ H=>∃G₀ H₀,tS X G₀ H₀ g D σ H):=λpins s σ H D I ⟨G₀,H₀,q⟩=>hb G₀ H₀ pins s σ H D I q;refine Du hp hcalm hi hg hb' hs pins s σ H D I ⟨G,ρ,sr.e,?_⟩;rw[q];exact λJ G1 H1 u1 iok=>key J G1 H1 u1 iok
 |ex C=>rw[q]at h;have hb':PSs X body (λD σ H=>∃G₀ H₀,tS X G₀ H₀ g D σ H):=λpins s σ H D I ⟨G₀,H₀,q⟩=>hb G₀ H₀ pins s σ H D I q;refine Du hp hcalm hi hg hb' hs pins s σ H D I ⟨G,ρ,sr.e,?_⟩;rw[q];exact Exx.of sr h
 |no=>rw[q]at h;exact h.elim
end
end L2
variable{g:L2.Ev->L2.O}
namespace L2
open PySem PySem.Spec PyProof.Rows
noncomputable def spF(K:PySem.W.Frag)(f:List D->R D):Sp:=λvs H Q E=>∃G ds,Same G H/\Reps K G vs ds/\(f ds).post (Fin G H (Rep K) Q) (λC=>∀G' H',Up G H G' H'->E (.ref C) none H')
noncomputable abbrev FnF(P:Program)(w:World)(K:PySem.W.Frag)(mg:Str->Option Value)(base:Heap)(k:Nat)(f:Addr)(fd:FuncData)(ps:List Str)(g:List D->R D):Prop:=FnOk P w K mg base (CXo P w) k f fd ps (λvs H Q E=>vs.length=ps.length/\spF K g vs H Q E)
section
variable{p:Pos}{e:Expr}{g:List D->R D}
def Ez(F:FnF X.prog X.w X.K X.mg X.base k f fd ps g)(hr:Room k X.A)(hg:Gl X x)(hm:X.mg x=some (.ref f))(hk:PySem.W.keepIn X.K (.ref f)=true)(hb:Binds X.K fd ps [])(ha:PFA X (e::es) gl)(hdb:(x==("__debug__":Str))=false:=by decide)(he:starEach (e::es) X.env=(false,eval e X.env)::starEach es X.env:=by rfl)(hpl:(backTo pos (starEach es X.env)).any (·.1)=false:=by rfl):
  PF X (.Call (.Name x p) (e::es) [] pos) (λρ=>gl ρ>>=λds=>if ds.length=ps.length then g ds else .no):=by
 intro pins s σ H Q I h;obtain⟨G,ρ,st,h⟩:=h;have t:tAF X gl σ H (λvs H1=>∃G1 ds,Up G H G1 H1/\Same G1 H1/\Reps X.K G1 vs ds/\ds.length=ps.length/\(g ds).post (Fin G1 H1 (Rep X.K) Q) (Exx X σ G1 H1)):=by
  refine tG.intro st h λds vs G1 H1 u1 st1 r1 h1=>?_;by_cases hl:ds.length=ps.length;·rw[if_pos hl]at h1;exact⟨G1,ds,u1,st1.sub,r1,hl,h1⟩
  ·rw[if_neg hl]at h1;exact h1.elim
 refine wpAny_Call_Name_kw (mv I hg hm ?_ hdb);refine PySem.W.callWith_K (h₀:=X.base) I.ok.mod.kin hk (thn (ha pos pins s σ H _ I t) λus s1 q=>⟨?_,?_⟩) he hpl;·obtain⟨vs,H1,I1,r,_⟩:=q;exact I1.kIn
 obtain⟨vs,H1,I1,r,G1,ds,u1,sub1,rp,hl,h1⟩:=q;have hvl:vs.length=ps.length:=by rw[rp.length];exact hl
 have hul:(us++[]).length=ps.length:=by rw[List.append_nil,<- r.length];exact hvl
 have hbb:=hb s1 us I1.kIn hul;rw[List.append_nil]at hbb;refine wpAny_call (codeAny_mono (F.run X.A X.stack s1 H1 ⟨us,[]⟩ us vs Q (λc _ H'=>∃C G',c=.ref C/\Up G1 H1 G' H'/\Exx X σ G1 H1 C) hr I1.env0 hbb r ⟨hvl,G1,ds,sub1,rp,h1.mono (λ_ q=>q) λC q G' H' u=>⟨C,G',rfl,u,q⟩⟩) λr' s' hq=>?_);cases r' with
 |error e'=>obtain⟨a,C,H',rfl,fl,C',G',ec,u,q⟩:=hq;cases ec;exact q _ _ ⟨G1,H1,.refl sub1,pins,s1,a,rfl,I1,.inr (.inl ⟨G',H',fl,u⟩)⟩
 |ok fl=>
  cases fl with
  |ret u=>exact I1.after hq
  |_=>exact False.elim hq
end
def ObjOk.there{w:World}{o:HO}(x:ObjOk P w H h a o):∃ob,h.get? a=some ob:=by
 cases o with
 |lst xs=>obtain⟨_,_,_,_,e⟩:=x;exact⟨_,e⟩
 |tup xs=>obtain⟨_,_,_,o,e,_⟩:=x;exact⟨_,e⟩
 |dK kvs=>obtain⟨_,_,_,_,o,_,_,e,_⟩:=x;exact⟨_,e⟩
 |dT kvs=>obtain⟨_,_,_,_,o,_,_,e,_⟩:=x;exact⟨_,e⟩
 |set S n=>obtain⟨o,_,_,_,e,_⟩:=x;exact⟨_,e⟩
 |ins C dx fs=>obtain⟨_,_,_,e,_⟩:=x;exact⟨_,e⟩
 |own y=>obtain⟨_,e⟩:=x;exact⟨_,e⟩
 |xd fs=>obtain⟨_,⟨_,_,_,e,_⟩,_⟩:=x;exact⟨_,e⟩
 |rng lo hi=>obtain⟨_,_,_,e⟩:=x;exact⟨_,e⟩
 |frz ob u=>obtain⟨e,_⟩:=x;exact⟨_,e⟩
 |tbl ps=>obtain⟨_,e,_⟩:=x;exact⟨_,e⟩
 |met f y=>exact⟨_,show h.get? a=some _ from x⟩
 |ext φ=>obtain⟨_,⟨_,e⟩,_⟩:=x;exact⟨_,e⟩
def C8{env:Env}{outer:List Env}{L:Addr}(h:env.frame=some L):frs (env::outer)=L::frs outer:=by unfold frs;rw[List.filterMap_cons,h]
section
variable{w:World}{h1 h2 hm:Heap}{l l':List Addr}{B:Heap}
def HOk.flight(x:HOk P w H' h1)(hb:B.StaysIn h2)(hk:∀b o,b∉l->((∃o0,hm.get? b=some o0)\/∃u,H' b=some u)->h1.get? b=some o->B.get? b=some o)(hl:∀b∈l,H' b=none):HOk P w H' h2:=λa o e=>by
 refine(x a o e).stay (λb u hbb q=>hb b u (hk b u (λz=>?_) (.inr ?_) q)) (λ_ z=>z) (λ_ _ z=>z)
 ·rcases hbb with rfl|hbb;·rw[hl _ z]at e;cases e
  ·rw[hl _ z]at hbb;cases hbb
 ·rcases hbb with rfl|hbb;·exact⟨_,e⟩
  ·exact⟨_,hbb⟩
def Un.flight{ex:List Addr}(u:Un l' ex H H' h h1)(hb:B.StaysIn h2)(sm:h1.UpToSlots h2)(hk:∀b o,b∉l->((∃o0,hm.get? b=some o0)\/∃u,H' b=some u)->h1.get? b=some o->B.get? b=some o)(lt:∀b o,h.get? b=some o->∃o0,hm.get? b=some o0)(hl:∀b∈l,b∈l'\/h.objs.size<=b)(hd:∀b∈l,∀o,h1.get? b=some o->∀vs,o.data≠.fields vs):Un l' ex H H' h h2:=by
 refine⟨λb o e nn hb' hx=>?_,λb o e nn hb' hx=>?_,u.free,λb o e hx=>?_,u.tups,u.frzs,u.tbls⟩
 ·have q:=u.keep b o e nn hb' hx;refine hb b o (hk b o (λz=>?_) (.inl (lt b o e)) q);rcases hl b z with z|z;·exact hb' z
  ·exact absurd (Heap.lt_size e) (Nat.not_lt.mpr z)
 ·obtain⟨sl,q⟩:=u.slot b o e nn hb' hx;by_cases z:b∈l;·obtain⟨sl',q'⟩:=sm b _ q (hd b z _ q);exact⟨sl',q'⟩
  ·exact⟨sl,hb b _ (hk b _ z (.inl (lt b o e)) q)⟩
 ·obtain⟨o',q⟩:=u.there b o e hx;by_cases z:b∈l;·obtain⟨sl',q'⟩:=sm b _ q (hd b z _ q);exact⟨_,q'⟩
  ·exact⟨o',hb b _ (hk b _ z (.inl (lt b o e)) q)⟩
end
def FunFrames.data{base:Heap}:∀{l:List Env},h.FunFrames base l->∀b∈frs l,∃o,h.get? b=some o/\(∀vs,o.data≠.fields vs)/\base.get? b=none:=λ{l} hf b hb=>by obtain⟨h1,o,h2,h3⟩:=hf.mem hb;exact⟨o,h2,h3,h1⟩
noncomputable def gCx(P:Program)(w:World)(K:PySem.W.Frag)(mg:Str->Option Value)(base:Heap)(N:List Str)(env:Env)(fn:Str->Bool)(A:Around)(outer:List Env)(s:Shared)(H:Hp)(E:XK):Cx where
 prog:=P
 w:=w
 K:=K
 mg:=mg
 base:=base
 A:=A.deeper env
 N:=N
 s₀:=s
 H₀:=H
 env:=env
 outer:=outer
 stack:=env::outer
 ex:=[]
 calm:=true
 fn:=fn
 pn:=[]
 xe:=λe s'=>wpAny (model P w) (A.deeper env) (leaving env e) (λ_ s''=>CXo P w outer H s E e s'') (λe' s''=>CXo P w outer H s E e' s'') s'
def Fb{w : World}{K : PySem.W.Frag}{mg : Str -> Option Value}{base : Heap}{N : List Str}{env : Env}{fn : Str -> Bool}{A : Around}{outer : List Env}{E : XK}{e : Value}(hloc : env.locals = s.heap.objs.size)(hf : env.frame = some s.heap.objs.size)(fl : FlyS (gCx P w K mg base N env fn A outer s H E) G H ρ C e s')(hE : ∀G' H', Up G H G' H' -> E (.ref C) none H'): (gCx P w K mg base N env fn A outer s H E).xe e s' := by
  obtain⟨σ, H₁, pins, s₁, a, rfl, I, way⟩ := fl;have hfr : (A.deeper (env)).frames = some (env :: outer) := I.ok.frames;have hst : frs (env :: outer) = s.heap.objs.size :: frs outer := C8 hf;have old : ∀b o, s.heap.get? b = some o -> ∃o0, s₁.heap.get? b = some o0 := λb o e => I.base.there b o e (by show b∉([] : List Addr); simp);show wpAny (model P w) (A.deeper (env)) (leaving (env) (.ref a)) (λ_ s'' => CXo P w outer H s E (.ref a) s'') (λe' s'' => CXo P w outer H s E e' s'') s';have fin : ∀{H' : Hp}{G' : Hp}{s' : Shared}{h'' B : Heap}{a0 : Value}, Inv (gCx P w K mg base N env fn A outer s H E) pins σ H' s' -> StR K G H G' H' σ ρ -> H' a = none -> Heap.FlyingW B outer a (.ref C) a0 h'' -> s'.heap.UpToSlots h'' ->
      (∀b o, b∉s.heap.objs.size :: frs outer -> ((∃o0, s₁.heap.get? b = some o0) \/ ∃u, H' b = some u) -> s'.heap.get? b = some o -> B.get? b = some o) -> CXo P w outer H s E (.ref a) { s' with heap := h'' } := by
    intro H' G' s' h'' B a0 J up ha fl sm hk;have J0 : H' s.heap.objs.size = none := by have q : H' env.locals = none := J.free; rw[hloc]at q; exact q
    have fr0 : ∀b ∈ frs outer, H' b = none := λb hb => J.stkFree b (by show b ∈ frs (env :: outer); rw[hst]; exact List.mem_cons_of_mem _ hb);have frA : ∀b ∈ s.heap.objs.size :: frs outer, H' b = none := λb hb => by
      rcases List.mem_cons.mp hb with rfl|hb;· exact J0
      · exact fr0 b hb
    have dat : ∀b ∈ s.heap.objs.size :: frs outer, ∀o, s'.heap.get? b = some o -> ∀vs, o.data≠.fields vs := λb hb o e => by obtain⟨o', e', d', _⟩ := FunFrames.data J.stack b (by show b ∈ frs (env :: outer); rw[hst]; exact hb);rw[e]at e'; cases e'; exact d'
    have hok : HOk P w H' h'' := J.hok.flight fl.1 hk frA;have un : Un (frs outer) [] H H' s.heap h'' := Un.flight J.base fl.1 sm hk old (λb hb => (List.mem_cons.mp hb).elim (λz => .inr (by rw[z]; exact Nat.le_refl _)) .inl) dat;refine⟨a, C, H', rfl, ⟨J.os, J.bare, un, hok, ha, B, a0, fl, λb o hb ho e => ?_⟩, hE G' H' up.up⟩;have nb : b∉s.heap.objs.size :: frs outer := λz => by
      rcases List.mem_cons.mp z with z|z
      · rcases ho with⟨o0, ho⟩ | ⟨u, ho⟩;· rw[z]at ho; exact Nat.lt_irrefl _ (Heap.lt_size ho)
        · rw[z, J0]at ho; cases ho
      · exact hb z
    have ho' : (∃o0, s₁.heap.get? b = some o0) \/ ∃u, H' b = some u := ho.imp (λ⟨o0, z⟩ => old b o0 z) id;have ex : ∃o', s'.heap.get? b = some o' := by
      rcases ho with⟨o0, ho⟩ | ⟨u, ho⟩;· exact J.base.there b o0 ho (by show b∉([] : List Addr); simp)
      · exact(J.hok b u ho).there
    obtain⟨o', e'⟩ := ex;have q := hk b o' nb ho' e';have q2 := fl.1 b o' q;have e2 : h''.get? b = some o := e;rw[q2]at e2;cases e2;exact q
  rcases way with⟨G₁, h', vs, sr, made, rfl⟩ | ⟨G', H', ⟨os, bare, un, hok, ha, B, a0, fl, hk⟩, up⟩ | ⟨G', H', L', hL, ⟨os, bare, ⟨ch, hch, un⟩, hok, ha, _, B, a0, fl, hk⟩, up⟩
  ·
    have J : Inv (gCx P w K mg base N env fn A outer s H E) pins σ H₁ { s₁ with heap := h' } := I.kept (t' := s₁.toks) made.keeps;have hin : ∀en ∈ (env :: outer), ∀b, en.frame = some b -> b ∈ s.heap.objs.size :: frs outer := λen he b hb => by rw[<- hst]; exact List.mem_filterMap.mpr ⟨en, he, hb⟩
    refine wpAny_leaves_madeW (base := PySem.W.hideAll s₁.heap (s.heap.objs.size :: frs outer)) hfr hf (λb o q => PySem.W.of_hideAll _ q) (PySem.W.funFrames_hide I.stack hin) made λh'' t fl' _ _ sm => ?_;have ha : H₁ a = none := by
      cases q : H₁ a with
      |none => rfl
      |some u =>obtain⟨ob, e⟩ := (I.hok a u q).there;rw[made.new]at e; cases e
    refine fin J sr ha fl' sm λb o hb ho e => ?_;have e1 : s₁.heap.get? b = some o := by
      rcases ho with⟨o0, ho⟩ | ⟨u, ho⟩;· have q := made.keeps b o0 ho;have e' : h'.get? b = some o := e;rw[q]at e'; cases e'; exact ho
      · obtain⟨ob, ho⟩ := (I.hok b u ho).there;have q := made.keeps b ob ho;have e' : h'.get? b = some o := e;rw[q]at e'; cases e'; exact ho
    exact PySem.W.hideAll_get _ e1 hb
  · have J := I.call' (s' := s') (ch := []) os un hok bare (λb z => absurd z (by simp));exact wpAny_leaves_onW hfr hf fl λh'' fl' sm => fin J up ha fl' sm λb o hb ho e => hk b o (by show b∉frs (env :: outer); rw[hst]; exact hb) ho e
  · have J := I.call' (s' := s') (ch := ch) os un hok bare hch;have eL : s.heap.objs.size = L' := Option.some.inj (hf.symm.trans hL);rw[<- eL]at fl;refine wpAny_bind (wpAny_noteFrame_againW hf fl.2.2.2 (wpAny_landsW fl λh'' fl' sm => ?_));obtain⟨k1, k2, ⟨_, _, k3⟩, k4⟩ := fl';exact fin J up ha ⟨k1, k2, k3, k4⟩ sm λb o hb ho e => hk b o (by show b∉frs (env :: outer); rw[hst]; exact hb) ho e

def lP{w:World}{K:PySem.W.Frag}{mg:Str->Option Value}{base:Heap}{N:List Str}{A:Around}{outer:List Env}{E:XK}{e:Value}(fl:FlyS (fU (CXo P w) P w K mg base N qual scope f cd A outer s H E) G H ρ C e s')(hE:∀G' H',Up G H G' H'->E (.ref C) none H'):(fU (CXo P w) P w K mg base N qual scope f cd A outer s H E).xe e s':=
 Fb (env:=envOfC qual scope s.heap.objs.size f cd) (fn:=λ_=>true) rfl rfl fl hE
noncomputable def aC(n:Nat)(ds:List D):Ev:=ds.map (λd=>some (.val d))++List.replicate (n - ds.length) none
noncomputable def aD(o:O):R D:=match o with
 |.rt d=>.ok d
 |.re d _=>.ok d
 |.nx _=>.ok .non
 |.ex C _=>.ex C
 |_=>.no
def qc{K:PySem.W.Frag}{N:List Str}(sub:Same G H)(r:Reps K G vs ds):StR K G H G H (jl N vs) (aC N.length ds):=by
 have hl:=r.length;have get:∀(i:Nat) x,(aC N.length ds)[i]?=some (some x)->∃d,ds[i]?=some d/\x=.val d:=λi x e=>by
  unfold aC at e;by_cases hi:i<ds.length
  ·rw[List.getElem?_append_left (by simpa using hi),List.getElem?_map]at e;cases q:ds[i]? with
   |none=>rw[q]at e;cases e
   |some d=>rw[q]at e;cases e;exact⟨d,rfl,rfl⟩
  ·rw[List.getElem?_append_right (by simpa using hi),List.getElem?_replicate]at e;split at e <;> cases e
 have no:NoOwn (aC N.length ds):=λi x e=>by obtain⟨d',_,q⟩:=get i _ e;exact⟨d',q⟩
 refine⟨⟨sub,by simp[jl,aC,hl],λi d e=>?_,λi m C p fs e=>absurd e (no.obj i m C p fs)⟩,sub,.refl sub,λi es e=>?_,λi j es fs l e=>?_,no.ob⟩;·obtain⟨d',e',q⟩:=get i _ e;cases q;obtain⟨v,ev,rv⟩:=r.get e';refine⟨v,?_,rv⟩;unfold jl;rw[List.getElem?_append_left (by have:=(List.getElem?_eq_some_iff.mp ev).1;simpa using this),List.getElem?_map,ev];rfl
 ·obtain⟨d',_,q⟩:=get i _ e;cases q
 ·obtain⟨d',_,q⟩:=get i _ e;cases q
def Fun.okF{w:World}{K:PySem.W.Frag}{mg:Str->Option Value}{base:Heap}{N:List Str}(F:Fun K x qual st f fd)(S:FnScope N ps (aq st))(hbody:∀(cdv:Value)(A:Around)(outer:List Env)(s:Shared)(H:Hp)(E:XK),Room k (A.deeper (envOfC qual (aq st) s.heap.objs.size f cdv))->oM (fU (CXo P w) P w K mg base N qual (aq st) f cdv A outer s H E) (bb st) g):
  FnF P w K mg base (k+1) f fd ps (λds=>aD (g (aC N.length ds))):=by
 obtain⟨oc,od,kV,doc,pm,an,cdv,ct,osl,rfl,lk,hcd⟩:=F.ex;refine CO lk hcd S (λvs H Q E h=>h.1) λA outer s H vs Q E hr hsp=>?_;obtain⟨hl,G,ds,sub,r,h⟩:=hsp;refine⟨_,hbody cdv A outer s H E hr G H,G,aC N.length ds,qc sub r,?_⟩;dsimp only at h;cases q:g (aC N.length ds)with
 |nx ρ=>rw[q]at h;exact λσ G' H' sr=>h .non G' H' sr.up .non
 |rt d=>rw[q]at h;exact λv G' H' u rv=>h v G' H' u rv
 |re d ρ=>rw[q]at h;exact λv σ G' H' sr rv=>h v G' H' sr.up rv
 |bk ρ=>rw[q]at h;exact h.elim
 |ct ρ=>rw[q]at h;exact h.elim
 |ex C ρ=>rw[q]at h;exact λe s' fl=>lP fl h
 |no=>rw[q]at h;exact h.elim
def oj:fillsNumberSlot (.type "tuple") "mul"=pure false:=
 PySem.fillsNumberSlot_seq (id:="tuple.__mul__") (r:=some (.builtin "tuple.__rmul__")) F.slot_tuple_mul.lookup (by decide +kernel) F.slot_tuple_rmul.lookup (by decide +kernel)
def FI:seqRepeat? (.type "tuple")=pure (some (.builtin "tuple.__mul__")):=by unfold seqRepeat?;rw[PySem.seqSlot_of (T:="tuple") (name:="__mul__") (id:="tuple.__mul__") F.slot_tuple_mul.lookup (by decide +kernel),PySem.seqSlot_of (T:="tuple") (name:="__rmul__") (id:="tuple.__rmul__") F.slot_tuple_rmul.lookup (by decide +kernel)];rfl
open Builtin in
def sZ(a:Int)(t:Tok)(l:Addr)(items:Array Value)(n:Nat)(dd:Option Addr)(sl:Array (Option Value)):
  Meets (Builtin.«int.__rmul__» ⟨[.int a t,.ref l],[]⟩) (λ_ Rr s=>s.heap.get? l=some { cls:=.type "tuple",dict:=dd,data:=.seq items n,slots:=sl }/\Rr (.ok (.ret Value.notImplemented)) s):=
 .of_wp λprog w A Rr s h=>by obtain⟨hp,g,d,tk,os⟩:=s;obtain⟨hl,h⟩:=h;wp_walk;exact⟨_,rfl,h⟩
section
open Builtin AutoSeq1
variable(l:Addr)(items:Array Value)(n:Nat)(dd:Option Addr)(sl:Array (Option Value))(x:Int)(u:Tok)(h1:(decide (x < -(2 ^ 63)) || decide (x ≥ 2 ^ 63))=false)
include h1
def Bd(hc:(items.isEmpty || x==1)=true):
  Meets (Builtin.«tuple.__mul__» ⟨[.ref l,.int x u],[]⟩) (λ_ Rr s=>s.heap.get? l=some { cls:=.type "tuple",dict:=dd,data:=.seq items n,slots:=sl }/\Rr (.ok (.ret (.ref l))) s):=
 .of_wp λprog w A Rr s h=>by
  obtain⟨hp,g,d,tk,os⟩:=s;obtain⟨hl,h⟩:=h;have f1:=idx_int
  wp_walk
  refine wpAny_ite_false (by rw[h1];rfl) ?_;refine wpAny_bind (tupleItemsOf_ (show IsTup hp l items from⟨_,hl,rfl,n,rfl⟩) ?_);dsimp only;rw[if_pos hc];unfold Tuple.tupleIsExact;refine wpAny_bind (wpAny_bind (wpAny_typeOf ⟨_,hl,rfl⟩ (wpAny_pure ?_)));rw[if_pos (by decide)];exact wpAny_bind (wpAny_rule (wpAny_pure ⟨_,rfl,h⟩))
def BS(hc : ¬ (items.isEmpty || x==1)=true)(h2:(decide (x<=0) || items.isEmpty)=true):
  Meets (Builtin.«tuple.__mul__» ⟨[.ref l,.int x u],[]⟩) (λ_ Rr s=>s.heap.get? l=some { cls:=.type "tuple",dict:=dd,data:=.seq items n,slots:=sl }/\Rr (.ok (.ret (.ref s.heap.objs.size))) { s with heap:=s.heap.push { cls:=.type "tuple",data:=.seq #[] } }):=
 .of_wp λprog w A Rr s h=>by
  obtain⟨hp,g,d,tk,os⟩:=s;obtain⟨hl,h⟩:=h;have f1:=idx_int
  wp_walk
  refine wpAny_ite_false (by rw[h1];rfl) ?_;refine wpAny_bind (tupleItemsOf_ (show IsTup hp l items from⟨_,hl,rfl,n,rfl⟩) ?_);dsimp only;rw[if_neg hc,if_pos h2];exact wpAny_bind (m:=Builtin.Tuple.tupleExact _) (wpAny_newObj_type (wpAny_pure ⟨_,rfl,h⟩) (Nat.zero_le _))
def B2(hc : ¬ (items.isEmpty || x==1)=true)(h2 : ¬ (decide (x<=0) || items.isEmpty)=true)(hz:items.size * x.toNat<=sizeLine):
  Meets (Builtin.«tuple.__mul__» ⟨[.ref l,.int x u],[]⟩) (λ_ Rr s=>s.heap.get? l=some { cls:=.type "tuple",dict:=dd,data:=.seq items n,slots:=sl }/\
   Rr (.ok (.ret (.ref s.heap.objs.size))) { s with heap:=s.heap.push { cls:=.type "tuple",data:=.seq (List.foldl (λx1 x2=>x1++x2) #[] (List.replicate x.toNat items)) } }):=
 .of_wp λprog w A Rr s h=>by
  obtain⟨hp,g,d,tk,os⟩:=s;obtain⟨hl,h⟩:=h;have f1:=idx_int;have hx:0<x:=by
   cases q:decide (x<=0)with
   |true=>rw[q]at h2;exact absurd rfl h2
   |false=>exact Int.not_le.mp (of_decide_eq_false q)
  have ez:(items.size:Int) * x=((items.size * x.toNat:Nat):Int):=by rw[Int.natCast_mul,Int.toNat_of_nonneg (Int.le_of_lt hx)]
  have hlim:(sizeLine:Nat)<=(2 ^ 63 - 1) / 8:=by decide
  have h3 : ¬ ((items.size:Int) * x > (2 ^ 63 - 1) / 8):=by
   rw[ez];have:((sizeLine:Nat):Int)<=(2 ^ 63 - 1) / 8:=by decide
   omega
  have h4 : ¬ (Tuple.tupleTooMany ((items.size:Int) * x)=true):=by unfold Tuple.tupleTooMany;rw[ez];intro q;have:=of_decide_eq_true q;omega
  have hfz:(List.foldl (λx1 x2=>x1++x2) #[] (List.replicate x.toNat items)).size<=sizeLine:=by have e:=jM items.toList x.toNat [];simp only[List.nil_append,Array.toArray_toList]at e;rw[e,List.size_toArray,pT,Array.length_toList,Nat.mul_comm];exact hz
  wp_walk
  refine wpAny_ite_false (by rw[h1];rfl) ?_;refine wpAny_bind (tupleItemsOf_ (show IsTup hp l items from⟨_,hl,rfl,n,rfl⟩) ?_);dsimp only;rw[if_neg hc,if_neg h2,if_neg h3,if_neg h4];exact wpAny_bind (m:=Builtin.Tuple.tupleExact _) (wpAny_newObj_type (wpAny_pure ⟨_,rfl,h⟩) hfz)
end
section
noncomputable def Jc(K:PySem.W.Frag):R2:=λx y H Q=>∃l k xs,x=.ref l/\y=.int k/\SqT K H l xs/\-(2 ^ 63)<=k/\k<2 ^ 63/\xs.length * k.toNat<=sizeLine/\
 (xs=[]\/k=1->Q (.ref l) H)/\(xs≠[]->k≠1->∀p,H p=none->Q (.ref p) (upd H p (.tup (List.replicate k.toNat xs).flatten)))
def op_repT:OpR X (binaryOp .Mult) (Jc X.K):=by
 intro pins s σ H x y v u Q I rx ry h;obtain⟨l,k,xs,rfl,rfl,hH,h1,h2,hz,q0,q1⟩:=h;cases rx;obtain⟨t,rfl⟩:=ry;obtain⟨its,r,p,hzz⟩:=I.tuple hH;obtain⟨⟨cls,dd,data,sl⟩,ho,hc,n,hd⟩:=id p;simp only at hc hd;subst hc hd;have hlen:its.length=xs.length:=r.length.symm;have hin:(decide (k < -(2 ^ 63)) || decide (k ≥ 2 ^ 63))=false:=by rw[decide_eq_false (by omega),decide_eq_false (by omega)];rfl
 have emp:its.toArray.isEmpty=decide (xs=[]):=by
  cases its with
  |nil=>cases r;rfl
  |cons a b=>cases r;rfl
 refine wpAny_binaryOp_repeat_ref (T:="tuple") (U:="int") (by decide) ⟨_,ho,rfl⟩ (λs'=>typeIs_int s' k t) oj F.fills_int_mul F.slot_int_rmul FI F.slot_int_index.lookup
  (call_meets F.slot_int_rmul (typeIs_int s k t) F.entry_int_rmul (F.args_int_rmul_2 _ _) (sZ k t l its.toArray n dd sl) ⟨ho,rfl,⟨_,ho,rfl⟩,?_⟩);by_cases hc:(its.toArray.isEmpty || k==1)=true;·refine call_meets F.slot_tuple_mul ⟨_,ho,rfl⟩ F.entry_tuple_mul (F.args_tuple_mul_2 _ _) (Bd l its.toArray n dd sl k t hin hc) ⟨ho,.ref l,H,I,rfl,q0 ?_⟩;rw[emp]at hc;simpa using hc
 ·have hne:xs≠[]/\k≠1:=by rw[emp]at hc;simpa using hc
  have fin:∀its',its'=(List.replicate k.toNat its).flatten->EP X pins σ Q (.ref s.heap.objs.size) { s with heap:=s.heap.push { cls:=.type "tuple",data:=.seq its'.toArray } }:=λits' e=>by subst e;refine⟨.ref s.heap.objs.size,_,I.laid (t':=s.toks) (o:=.tup (List.replicate k.toNat xs).flatten) (λb ob q=>Heap.get?_push_of_some _ q) (Nat.le_refl _) ?_,rfl,q1 hne.1 hne.2 _ I.fresh⟩;exact⟨by rw[pT,Nat.mul_comm];exact hz,_,r.rep k.toNat,IsTup.new _ _⟩
  by_cases h0:(decide (k<=0) || its.toArray.isEmpty)=true
  ·refine call_meets F.slot_tuple_mul ⟨_,ho,rfl⟩ F.entry_tuple_mul (F.args_tuple_mul_2 _ _) (BS l its.toArray n dd sl k t hin hc h0) ⟨ho,?_⟩;refine fin [] ?_;have:k<=0:=by rw[emp,decide_eq_false hne.1,Bool.or_false]at h0;exact of_decide_eq_true h0
   rw[Int.toNat_of_nonpos this];rfl
  ·refine call_meets F.slot_tuple_mul ⟨_,ho,rfl⟩ F.entry_tuple_mul (F.args_tuple_mul_2 _ _) (B2 l its.toArray n dd sl k t hin hc h0 (by rw[List.size_toArray,hlen];exact hz)) ⟨ho,?_⟩;have e:=jM its k.toNat [];simp only[List.nil_append]at e;rw[e];exact fin _ rfl
def Ep(x:Str)(n:Int):(Txt.mul x n).cps.toList=(List.replicate n.toNat x.cps.toList).flatten:=by
 unfold Txt.mul;by_cases h1:n<1;·rw[if_pos h1,Int.toNat_of_nonpos (by omega)];rfl
 ·rw[if_neg h1];by_cases h2:(n==1 || x.length==0)=true
  ·rw[if_pos h2];rcases Bool.or_eq_true_iff.mp h2 with h|h
   ·have:n=1:=by simpa using h
    subst this;show _=(List.replicate 1 x.cps.toList).flatten;simp
   ·have:x.cps.toList=[]:=List.eq_nil_of_length_eq_zero (by rw[Str.len_list];simpa using h);rw[this];simp
  ·rw[if_neg h2];have:∀(m:Nat)(acc:Array Nat),((List.replicate m x.cps).foldl (·++·) acc).toList=acc.toList++(List.replicate m x.cps.toList).flatten:=by
    intro m;induction m with
    |zero=>intro acc;simp
    |succ m ih=>intro acc;rw[List.replicate_succ,List.foldl_cons,ih,List.replicate_succ,List.flatten_cons];simp
   simpa using this n.toNat #[]
def op_mul_str:OpR X (binaryOp .Mult) (λx y H Q=>∃(i:Str)(k:Int),x=.str i/\y=.int k/\-(2 ^ 63)<=k/\k<2 ^ 63/\i.length * k.toNat<=sizeLine/\Q (.str (Txt.mul i k)) H):=by
 intro pins s σ H x y v u Q I rx ry h;obtain⟨i,k,rfl,rfl,h1,h2,hz,q⟩:=h;obtain⟨t,rfl⟩:=rx;obtain⟨t',rfl⟩:=ry;refine SB.mul ⟨by rw[decide_eq_false (by omega),decide_eq_false (by omega)];rfl,λh3 h4=>?_,λh3 h4=>?_⟩ λt'' n=>⟨.str _,H,I.tok _,⟨_,rfl⟩,q⟩
 ·have hk:0<k:=by omega
  intro h5;have h6:(2 ^ 63 - 1) / k * k<=2 ^ 63 - 1:=Int.ediv_mul_le _ (by omega);have h7:(((i.length * k.toNat:Nat)):Int)=(i.length:Int) * k:=by rw[Int.natCast_mul,Int.toNat_of_nonneg (by omega)]
  have h8:((2 ^ 63 - 1) / k+1) * k<=(i.length:Int) * k:=Int.mul_le_mul_of_nonneg_right (by omega) (by omega);have h9:2 ^ 63 - 1<((2 ^ 63 - 1) / k+1) * k:=Int.lt_ediv_add_one_mul_self _ hk;have h10:((sizeLine:Nat):Int)<2 ^ 63 - 1:=by decide
  omega
 ·unfold Builtin.Str.tooLong;exact decide_eq_false (by omega)
noncomputable def hV:D->D->Option D
 |.int i,.int j=>if (-(2 ^ 64)<i/\i<2 ^ 64)\/(-(2 ^ 64)<j/\j<2 ^ 64)then some (.int (i * j))else none
 |.str x,.int k=>if -(2 ^ 63)<=k/\k<2 ^ 63/\x.length * k.toNat<=sizeLine then some (.str (List.replicate k.toNat x).flatten)else none
 |.tup xs,.int k=>if -(2 ^ 63)<=k/\k<2 ^ 63/\xs.length * k.toNat<=sizeLine then some (.tup (List.replicate k.toNat xs).flatten)else none
 |.lst false xs,.int k=>if -(2 ^ 63)<=k/\k<2 ^ 63/\xs.length * k.toNat<=sizeLine then some (.lst false (List.replicate k.toNat xs).flatten)else none
 |_,_=>none
noncomputable def HU(K:PySem.W.Frag):R2:=λx y H Q=>rI CMul (λi j=>.int (i * j)) x y H Q\/(∃(i:Str)(k:Int),x=.str i/\y=.int k/\-(2 ^ 63)<=k/\k<2 ^ 63/\i.length * k.toNat<=sizeLine/\Q (.str (Txt.mul i k)) H)\/Jc K x y H Q\/Mb x y H Q
def Ex:OpR X (binaryOp .Mult) (HU X.K):=op_mul.or (op_mul_str.or (op_repT.or HH))
def Hz(K:PySem.W.Frag):ROk K (HU K) hV:=by
 intro G H x y dx dy d Q s rx ry e q;unfold hV at e;split at e
 ·split at e;·rename_i hc;cases e;exact .inl ⟨_,_,rx.int_inv,ry.int_inv,hc,q _ G H (.refl s) (.int _)⟩
  ·cases e
 ·split at e;·rename_i hc;cases e;obtain⟨i,rfl,ei,hi⟩:=rx.str_inv;subst ei;rw[Str.len_list]at hc;exact .inr (.inl ⟨i,_,rfl,ry.int_inv,hc.1,hc.2.1,hc.2.2,q _ G H (.refl s) (.strL (Ep i _) (by rw[pT,Str.len_list,Nat.mul_comm];exact hc.2.2))⟩)
  ·cases e
 ·split at e
  ·rename_i k hc;cases e;obtain⟨a,vs,rfl,ha,ra⟩:=rx.tup_inv;refine .inr (.inr (.inl ⟨a,_,vs,rfl,ry.int_inv,ha.mono s,hc.1,hc.2.1,by rw[ra.length];exact hc.2.2,λz=>?_,λ_ _ p hp=>q _ _ _ (.new s hp) (.tup (.of aS) ((ra.rep _).mono (.into (s.free hp))))⟩));rcases z with z|z
   ·subst z;cases ra;have e:(List.replicate k.toNat ([]:List D)).flatten=[]:=by simp
    rw[e]at q;exact q _ G H (.refl s) (.tup ha .nil)
   ·subst z;have e:∀l:List D,(List.replicate (1:Int).toNat l).flatten=l:=λl=>by show(List.replicate 1 l).flatten=l;simp
    rw[e]at q;exact q _ G H (.refl s) (.tup ha ra)
  ·cases e
 ·split at e;·rename_i hc;cases e;obtain⟨a,vs,rfl,ha,ra⟩:=rx.lst_inv;exact .inr (.inr (.inr ⟨a,_,vs,rfl,ry.int_inv,s _ _ ha,hc.1,hc.2.1,by rw[ra.length];exact hc.2.2,λp hp=>q _ _ _ (.new s hp) (.lst aS ((ra.rep _).mono (.into (s.free hp))))⟩))
  ·cases e
 ·cases e
def ic{a b:Expr}{ga:Ev->R D}(ha:PF X a ga)(hb:PF X b gb):PF X (.BinOp a .Mult b pos) (g2 hV ga gb):=tH Ex (Hz _) ha hb
end
end L2
namespace L2
open PySem PySem.W PySem.Spec PySem.Calls PyProof.Rows
structure ExcCls(K:Frag)(C:Addr):Prop where
 ga:findIn K (.ref C) "__getattribute__"=some (some (.builtin "BaseException.__getattribute__"))
 gt:findIn K (.ref C) "__getattr__"=some none
 cl:findIn K (.ref C) "__class__"=some (some (.builtin "object.__class__"))
 sp:specialIn K (.builtin "object.__class__") "__get__"=some (some (.builtin "getset_descriptor.__get__"))
 tk:takesIn K (.builtin "object.__class__")=some true
 mo:mroIn K C (.type "object")=some true
 be:subIn K (.ref C) (.type "BaseException")=some true
 some:(clsIn K C).isSome=true
section
variable{prog:Program}{w:World}{A:Around}{K:Frag}
section
open Builtin Builtin.ObjectAttr Builtin.Getset_descriptor
end
end
section
variable{A:Around}{Q:Value->Shared->Prop}
noncomputable def tyN:D->Option String
 |.non=>some "NoneType"
 |.bl _=>some "bool"
 |.int _=>some "int"
 |.str _=>some "str"
 |.tup _=>some "tuple"
 |.lst _ _=>some "list"
 |.exc _=>none
 |.dct _ _=>none
def Hk{x:V}{c:Value}{T:String}{b:Bool}(I:Inv X pins σ H s)(sub:Same G H)(r:Rep X.K G x d)(ru:RelV x u)(ht:tyN d=some T)(e:kitOne X.K (.type T) c=some b)(h:∀tk,Q (.bool b) { s with toks:=tk }):
  wpAny (model X.prog X.w) A (call (.builtin "isinstance") [u,c]) Q E s:=by
 cases r with
 |non=>cases ht;cases ru;exact kia_one kitx_none I.kIn True.intro e (λz=>nomatch z) h
 |bl y=>cases ht;cases ru;exact kia_one kitx_bool I.kIn True.intro e (λz=>nomatch z) h
 |int i=>cases ht;obtain⟨t,rfl⟩:=ru;exact kia_one kitx_int I.kIn True.intro e (λz=>nomatch z) h
 |str y hy=>cases ht;obtain⟨t,rfl⟩:=ru;exact kia_one kitx_str I.kIn True.intro e (λz=>nomatch z) h
 |tup hh t=>cases ht;cases ru;obtain⟨its,rv,⟨o,h1,h2,_⟩,_⟩:=I.tuple (hh.mono sub);exact kia_one kitx_tuple I.kIn ⟨o,h1,h2⟩ e (λz=>nomatch z) h
 |lst hh t=>cases ht;cases ru;obtain⟨its,rv,⟨o,n,h1,h2,_⟩,_⟩:=I.list ((SqL.of hh:SqL X.K G _ _).mono sub);exact kia_one kitx_list I.kIn ⟨o,h1,h2⟩ e (λz=>nomatch z) h
 |fls hh t=>cases ht;cases ru;obtain⟨its,rv,⟨o,n,h1,h2,_⟩,_⟩:=I.list (hh.mono sub);exact kia_one kitx_list I.kIn ⟨o,h1,h2⟩ e (λz=>nomatch z) h
 |exc hh=>cases ht
 |dct _ _ _=>cases ht
end
section
variable{e:Expr}{ga:Ev->R D}{p p2:Pos}
noncomputable def km(f:String->Bool)(d:D):R D:=match tyN d with
 |some t=>.ok (.bl (f t))
 |none=>.no
def mB{T:String}(f:String->Bool)(hf:∀K:Frag,∀t∈["NoneType","bool","int","str","tuple","list"],kitOne K (.type t) (.type T)=some (f t))(hg:Gl X "isinstance")(hm:X.mg "isinstance"=none)(hg2:Gl X y)(hm2:X.mg y=none)(hv:bootBuiltins y=some (.type T))(ha:PF X e ga)(hs1:starEach [e,.Name y p2] X.env=(false,eval e X.env)::starEach [.Name y p2] X.env:=by rfl)(hn:y≠"__name__":=by decide)(hdb:(y==("__debug__":Str))=false:=by decide):
  PF X (.Call (.Name "isinstance" p) [e,.Name y p2] [] pos) (λρ=>ga ρ>>=km f):=by
 intro pins s σ H Q I h;have hc:kI X (.builtin "isinstance") (λxs H Q=>∃x G d,xs=[x,.ty T]/\Same G H/\Rep X.K G x d/\∃t,tyN d=some t/\Q (.bl (f t)) H):=by
  intro pins s σ H xs us Q I r ⟨x,G,d,ex,sub,rd,t,et,q⟩;subst ex;obtain⟨u,u2,rfl,r1,r2⟩:=r.two;cases r2;refine Hk I sub rd r1 et (hf X.K t ?_) λtk=>⟨.bl (f t),H,I.tok tk,rfl,q⟩
  cases d <;> cases et <;> simp
 refine oZ hc hg hm PyProof.Rows.Boot.«isinstance» (du ha (du (Eu (v:=.ty T) hg2 hm2 hv rfl hn hdb) iy) hs1) (by decide) (by decide) hs1 rfl pins s σ H Q I ?_;obtain⟨G,ρ,st,h⟩:=h;refine tG.intro st h λx v G1 H1 u1 st1 r1 h1=>?_;refine⟨v,G1,x,rfl,st1.sub,r1,?_⟩;unfold km at h1;cases et:tyN x with
 |none=>rw[et]at h1;exact h1.elim
 |some t=>rw[et]at h1;exact⟨t,rfl,h1 _ G1 H1 (.refl st1.sub) (.bl _)⟩
end
end L2
namespace L2
open PySem PySem.Spec PyProof.Rows
noncomputable def AS:List D->Option (List Bool)
 | []=>some []
 |.bl b::ds=>(AS ds).map (b::·)
 |_=>none
def Reps.bls{K:PySem.W.Frag}:∀{vs:List V}{ds:List D}{bs:List Bool},Reps K G vs ds->AS ds=some bs->vs=bs.map .bl
 |_,_,bs,.nil,e=>by cases e;rfl
 |_,_,bs,.cons r t,e=>by
  cases r with
  |bl b=>
   rename_i ds;unfold AS at e;cases q:AS ds with
   |none=>rw[q]at e;cases e
   |some cs=>rw[q]at e;cases e;rw[Reps.bls t q];rfl
  |_=>simp[AS]at e
def Vals.bls:∀{bs:List Bool}{us:List Value},Vals (bs.map V.bl) us->us=bs.map Value.bool
 | [],_,.nil=>rfl
 |b::bs,_,.cons r t=>by rw[Vals.bls t,show _=Value.bool b from r];rfl
section
variable{e o:Expr}{ga:Ev->R D}
noncomputable def Mx(K:PySem.W.Frag)(f:List Bool->Bool):List V->Hp->VK->Prop:=λxs H Q=>∃p bs,xs=[.ref p]/\SqL K H p (bs.map V.bl)/\Q (.bl (f bs)) H
def Ar(A:Around)(prog:Program)(w:World)(bs:List Bool):TruthOf prog w A (λi v=>(bs.map Value.bool).toArray[i]?=some v) (λi=>bs.getD i true):=by
 intro i v s Q E hP hQ;rw[List.getElem?_toArray,List.getElem?_map]at hP;cases q:bs[i]? with
 |none=>rw[q]at hP;cases hP
 |some b=>
  rw[q]at hP;cases hP;have e:bs.getD i true=b:=by rw[List.getD_eq_getElem?_getD,q];rfl
  have hQ:Q (bs.getD i true) s:=hQ;rw[e]at hQ;exact wpAny_truthy_bool hQ
def xX(hc:X.calm=true):kI X (.builtin "all") (Mx X.K λbs=>bs.all id):=by
 intro pins s σ H xs us Q I r ⟨p,bs,ex,hs,q⟩;subst ex;obtain⟨u,rfl,r1⟩:=r.one;cases r1;obtain⟨its,rv,pl,hz⟩:=I.list hs;obtain rfl:=rv.bls;have hh:X.A.in1.handled=none:=I.ok.hd hc;have hlt:p<s.heap.objs.size:=by obtain⟨o,n,e,_⟩:=id pl;exact Heap.lt_size e
 refine call_all_walk (wpAny_pyIter_list pl.isList ?_);refine⟨s.heap.objs.size,[s.heap.objs.size,p],[s.heap.objs.size],_,_,_,λi=>bs.getD i true,rfl,Walks.list hh s.heap.objs.size p (Nat.ne_of_lt hlt) (bs.map Value.bool).toArray,⟨⟨_,Heap.get?_push_size _ rfl,rfl,rfl⟩,?_⟩,Ar _ _ _ bs,λh' tk hk=>?_⟩;·obtain⟨o,n,e,c,_,d⟩:=id pl;exact⟨o,Heap.get?_push_of_some _ e,c,n,d⟩
 ·have e:(List.range (bs.map Value.bool).toArray.size).all (λi=>bs.getD i true)=bs.all id:=by rw[List.size_toArray,List.length_map];exact mO rfl
  rw[e];refine⟨.bl _,H,I.kept (t':=tk) λb o eb=>hk b o (λz=>?_) (Heap.get?_push_of_some _ eb),rfl,q⟩;have:b=s.heap.objs.size:=by simpa using z
  exact Nat.lt_irrefl _ (this▸Heap.lt_size eb)
noncomputable def CH:List D->Option D
 | [.lst _ ds]=>(AS ds).map λbs=>.bl (bs.all id)
 |_=>none
def IE{p:Pos}(hc:X.calm=true)(hg:Gl X "all")(hm:X.mg "all"=none)(ha:PFA X [e] gl)(he:starEach [e] X.env=[(false,eval e X.env)]:=by rfl):PF X (.Call (.Name "all" p) [e] [] pos) (λρ=>gl ρ>>=λds=>ofO (CH ds)):=
 lD (xX hc) (by
  intro G H xs ds d Q s r e q;unfold CH at e;split at e
  ·rename_i f ds;obtain⟨v,rfl,r1⟩:=r.one;obtain⟨a,vs,rfl,h,t⟩:=r1.seq_inv;cases eb:AS ds with
   |none=>rw[eb]at e;cases e
   |some bs=>rw[eb]at e;cases e;obtain rfl:=t.bls eb;exact⟨a,bs,rfl,h.mono s,q _ G H (.refl s) (.bl _)⟩
  ·cases e) hg hm PyProof.Rows.Boot.«all» ha (he:=by rw[he];rfl)
noncomputable def JU(K:PySem.W.Frag)(T:String)(r:V->List V->Hp->VK->Prop)(f:D->List D->Option D):Prop:=∀(G H:Hp)(x:V)(xs:List V)(dx:D)(ds:List D)(d:D)(Q:VK),Same G H->Rep K G x dx->Reps K G xs ds->f dx ds=some d->Fin G H (Rep K) Q d->r x xs H Q
noncomputable def nG(T:String):D->Bool
 |.str _=>T=="str"
 |.lst _ _=>T=="list"
 |_=>false
def tO{T id:String}{name:Str}{ap cp:Pos}{r:V->List V->Hp->VK->Prop}{f:D->List D->Option D}(pa:PlainAttrs T)(slot:PySem.Slot T name id)(hty:typeOf (.builtin id)=pure (.type "method_descriptor"))(hm:MtR X id r)(hf:JU X.K T r f)(ho:PF X o ga)(ha:PFA X (e::es) gl)(hbase:attributeBase o name X.env (eval o X.env)=eval o X.env:=by rfl)(hfew:((backTo cp (starEach (e::es) X.env)).all (λx=>!x.1) && (backToKw cp (keywordEach [] X.env)).all (λx=>x.1.isSome)
 && decide ((e::es).length+([]:List Keyword).length+(if ([]:List Keyword).isEmpty then 0 else 1)<30))=true:=by rfl)(hline:(ap.endLine==cp.line)=true:=by rfl)(hs:starEach (e::es) X.env=(false,eval e X.env)::starEach es X.env:=by rfl)(hplain:(backTo cp (starEach es X.env)).any (·.1)=false:=by rfl):
  PF X (.Call (.Attribute o name ap) (e::es) [] cp) (λρ=>ga ρ>>=λx=>if nG T x=true then gl ρ>>=λds=>ofO (f x ds)else .no):=by
 intro pins s σ H Q I h;refine Cg pa slot hty hm ho ha hbase hfew hline hs hplain pins s σ H Q I ?_;obtain⟨G,ρ,st,h⟩:=h;refine tG.intro st h λx v G1 H1 u1 st1 r1 h1=>?_;by_cases hk:nG T x=true
 ·rw[if_pos hk]at h1;have ty:tyV X.K T v H1:=by
   cases r1 with
   |str y hy=>exact show T="str" by simpa[nG]using hk
   |lst hh t=>exact .inl ⟨by simpa[nG]using hk,_,.of (st1.sub _ _ hh)⟩
   |fls hh t=>exact .inl ⟨by simpa[nG]using hk,_,hh.mono st1.sub⟩
   |_=>cases hk
  refine⟨ty,tG.intro st1 h1 λds vs G2 H2 u2 st2 r2 h2=>?_⟩;obtain⟨d,e',q⟩:=ofO.ok h2;exact hf G2 H2 v vs x ds d Q st2.sub (r1.mono u2.gg) r2 e' q
 ·rw[if_neg hk]at h1;exact h1.elim
noncomputable def dB(x y:List Nat):List Nat:=(Txt.rstripChars ⟨x.toArray⟩ ⟨y.toArray⟩).cps.toList
noncomputable def jE:D->List D->Option D
 |.str x,[.str y]=>some (.str (dB x y))
 |_,_=>none
def Str.of_list{x:List Nat}(e:y.cps.toList=x):(⟨x.toArray⟩:Str)=y:=by subst e;simp
noncomputable def yU:V->List V->Hp->VK->Prop:=λx vs H Q=>∃y z:Str,x=.str y/\vs=[.str z]/\y.length<=sizeLine/\Q (.str (Txt.rstripChars y z)) H
def Ae:MtR X "str.rstrip" yU:=by intro pins s σ H x xs v us Q I rx rv ⟨y,z,ex,exs,hz,q⟩;subst ex exs;obtain⟨t,rfl⟩:=rx;obtain⟨u,rfl,r1⟩:=rv.one;obtain⟨t',rfl⟩:=r1;exact SCL.rstripChars (λt'' k _=>⟨.str _,H,I.tok _,⟨_,rfl⟩,q⟩) hz
def yf(K:PySem.W.Frag):JU K "str" yU jE:=by
 intro G H x xs dx ds d Q s rx rs e q;unfold jE at e;split at e
 ·cases e;obtain⟨v,rfl,r1⟩:=rs.one;obtain⟨i,rfl,ei,hi⟩:=rx.str_inv;obtain⟨j,rfl,ej,hj⟩:=r1.str_inv;refine⟨i,j,rfl,rfl,hi,q _ G H (.refl s) (.strL ?_ ?_)⟩;·unfold dB;rw[Str.of_list ei,Str.of_list ej]
  ·unfold dB;rw[Str.of_list ei,Str.of_list ej,Str.len_list];exact Nat.le_trans (len_rstripChars i j) hi
 ·cases e
def yH{ap cp:Pos}(ho:PF X o ga)(ha:PFA X [e] gl)(hbase:attributeBase o "rstrip" X.env (eval o X.env)=eval o X.env:=by rfl)(hfew:((backTo cp (starEach [e] X.env)).all (λx=>!x.1) && (backToKw cp (keywordEach [] X.env)).all (λx=>x.1.isSome)
 && decide ([e].length+([]:List Keyword).length+(if ([]:List Keyword).isEmpty then 0 else 1)<30))=true:=by rfl)(hline:(ap.endLine==cp.line)=true:=by rfl)(hs:starEach [e] X.env=(false,eval e X.env)::starEach [] X.env:=by rfl):
  PF X (.Call (.Attribute o "rstrip" ap) [e] [] cp) (λρ=>ga ρ>>=λx=>if nG "str" x=true then gl ρ>>=λds=>ofO (jE x ds)else .no):=
 tO PySem.F.plainAttrs_str PySem.F.slot_str_rstrip PySem.F.type_str_rstrip Ae (yf _) ho ha hbase hfew hline hs rfl
end
noncomputable def qx:List Nat->List D->Ev->R Ev
 | [],[],ρ=>.ok ρ
 |i::is,d::ds,ρ=>qx is ds (ρ.set i (some (.val d)))
 |_,_,_=>.no
def oE:∀(is:List Nat)(ds:List D)(ρ:Ev)(C:Addr),qx is ds ρ≠.ex C
 | [],[],_,_=>by intro z;cases z
 | [],_::_,_,_=>by intro z;cases z
 |_::_,[],_,_=>by intro z;cases z
 |i::is,d::ds,ρ,C=>oE is ds _ C
section
variable{e:Expr}{ga:Ev->R D}
noncomputable def JR(X:Cx)(es:List Expr)(is:List Nat):Prop:=PGs X es (λvs σ H Q=>∃G₀ H₀ G ρ ds ρ',StR X.K G₀ H₀ G H σ ρ/\Reps X.K G vs ds/\qx is ds ρ=.ok ρ'/\∀σ',StR X.K G₀ H₀ G H σ' ρ'->Q σ' H)
def pH:JR X [] []:=by
 intro pins s σ H vs us Q I r h;obtain⟨G₀,H₀,G,ρ,ds,ρ',sr,rd,e,q⟩:=h;refine zB pins s σ H vs us Q I r ?_;cases rd with
 |nil=>cases e;exact⟨rfl,q σ sr⟩
 |cons _ _=>cases e
def gF(i:Nat){p:Pos}(hN:X.N.Nodup)(h2:JR X es is)(hi:X.N[i]?=some x:=by rfl)(hx:Loc X.env.scope x:=by first|exact Or.inl rfl|exact Or.inr rfl)(hs:(assignEach (.Name x p::es) X.env).map (·.2)=assign (.Name x p) X.env::(assignEach es X.env).map (·.2):=by rfl)(hf:X.fn x=true\/X.env.scope.names.lookup x=some .local:=by first|exact .inl rfl|exact .inr rfl):
  JR X (.Name x p::es) (i::is):=by
 intro pins s σ H vs us Q I r h;obtain⟨G₀,H₀,G,ρ,ds,ρ',sr,rd,e,q⟩:=h;refine qG (fR (i:=i) hN hi hx hf) h2 hs pins s σ H vs us Q I r ?_;cases rd with
 |nil=>cases e
 |cons r1 t1=>exact⟨_,_,rfl,G₀,H₀,G,_,_,ρ',sr.set r1 i,t1,e,q⟩
noncomputable def xK(is:List Nat)(d:D)(ρ:Ev):R Ev:=match d with
 |.tup ds=>qx is ds ρ
 |_=>.no
def rn:∀(is:List Nat)(ds:List D)(ρ ρ':Ev),qx is ds ρ=.ok ρ'->ds.length=is.length
 | [],[],_,_,_=>rfl
 | [],_::_,_,_,e=>by cases e
 |_::_,[],_,_,e=>by cases e
 |i::is,d::ds,ρ,ρ',e=>by simp[rn is ds _ ρ' e]
def ue(hc:X.calm=true)(h:JR X es is)(hn:(assignEach es X.env).length=is.length:=by rfl)(hst:(assignEach es X.env).findIdx? (·.1)=none:=by rfl):PGF X (.Tuple es k pos) (xK is):=by
 intro pins s σ H v u Q I r q;obtain⟨G₀,H₀,G,ρ,d,ρ',sr,rd,e,q⟩:=q;refine DY hc h hn hst pins s σ H v u Q I r ?_;cases rd with
 |tup hh t=>rename_i ds;exact⟨_,_,rfl,hh.mono sr.e.sub,by rw[t.length];exact rn is ds ρ ρ' e,G₀,H₀,G,ρ,ds,ρ',sr,t,e,q⟩
 |_=>cases e
def rC(is:List Nat):∀(d:D)(ρ:Ev)(C:Addr),xK is d ρ≠.ex C:=λd ρ C=>by
 cases d with
 |tup ds=>exact oE is ds ρ C
 |_=>intro z;cases z
def wP{np cp:Pos}{bm:List Value}{B newId initId:String}(Oc:OwnCls x C bm newId X.mg X.base)(FB:ExcBaseFacts B newId initId bm)(hh:X.A.handled=none)(hg:Gl X x)(ha:PFA X [e] gl)(hdb:(x==("__debug__":Str))=false:=by decide)(hs:starEach [e] X.env=(false,eval e X.env)::starEach [] X.env:=by rfl)(hz:∀ρ ds,gl ρ=.ok ds->ds.length<=1:=by intro _ _ z;first|(cases z;decide)|skip):
  PSF X (.Raise (some (.Call (.Name x np) [e] [] cp)) none pos) (λρ=>(gl ρ).out ρ λ_=>.ex C ρ):=λG₀ H₀ pins s σ H D I h=>by
 obtain⟨G,ρ,sr,h⟩:=h;dsimp only at h;obtain⟨tl,N,nm,qn,bs,hdct,sn,sub,ab,col,dd,k0,k1,k2,k3,k5,mN,hC,hN,hni,T⟩:=Oc.obj;refine wpAny_Raise_call_subT (C:=C) (nm:=nm) (q:=qn) (N:=N) (bs:=bs) (bm:=tl) (hdct:=hdct) (sn:=sn) (sub:=sub) (ab:=ab) (col:=col) (dd:=dd) (k0:=k0) (k1:=k1) (k2:=k2) (k3:=k3) (k5:=k5)
  FB (mN:=mN) (T.hasType FB.hasBase) hh (by rw[hs];rfl) hni (mv I hg Oc.bound ⟨rfl,?_⟩ hdb);have t:tAF X gl σ H (λvs H1=>vs.length<=sizeLine/\∃G1,Up G H G1 H1/\jH X G₀ H₀ D (.ex C ρ)):=by
  refine⟨G,ρ,sr.e,?_⟩;cases q:gl ρ with
  |ok ds=>rw[q]at h;intro vs G1 H1 u r;exact⟨by rw[r.length];exact Nat.le_trans (hz ρ ds q) (by decide),G1,u,h⟩
  |ex C'=>rw[q]at h;exact Exx.of sr h
  |no=>rw[q]at h;exact h
 have hA:=ha cp pins s σ H _ I t;rw[hs]at hA⊢;refine Calls.evalArgs_plain (wpAny_mono hA (λvs s₂ q=>?_) λ_ _ y=>y);obtain⟨vs',H1,I1,r,hz,G1,u,h⟩:=q;exact⟨rfl,by show vs.length<=sizeLine;rw[<- r.length];exact hz,I1.bk _ _ hC,hN.keeps I1.bk,T.keeps I1.bk,λh' a made=>h _ _ (.of (sr.ups u) ⟨pins,s₂,a,rfl,I1,.inl ⟨h',vs,made,rfl⟩⟩)⟩
end
section
def Inv.cx{A':Around}{calm':Bool}{pn' pins':List (Addr×Obj)}{xe':Value->Shared->Prop}(I:Inv X pins σ H s)(hp:∀p∈pn'++pins',p∈X.pn++pins)(hA:A'.frames=X.A.frames)(hd:calm'=true->A'.handled=none):
  Inv { X with A:=A',calm:=calm',pn:=pn',xe:=xe' } pins' σ H s:=
 ⟨⟨I.ok.mod,I.ok.kind,I.ok.glob,I.ok.blt,I.ok.above,I.ok.inj,I.ok.has,I.ok.cab,hd,hA.trans I.ok.frames,I.ok.stk,I.ok.exf,I.ok.bs,I.ok.bsz,I.ok.noex,I.ok.exfs,I.ok.funs,I.ok.frf,I.ok.tabs⟩,
  I.os,I.bare,I.base,I.loc,I.cell,I.free,I.freeC,λp q=>I.pin p (hp p q),I.hok,I.len⟩
end
noncomputable def Mc(gb gs:Ev->O)(f:Addr->Option Bool)(i:Nat):Ev->O:=λρ=>match gb ρ with
 |.ex C ρ'=>(match f C with
  |some true=>(match gs (ρ'.set i (some (.val (.exc C))))with
   |.nx ρ''=>.nx (ρ''.set i none)
   |.rt d=>.rt d
   |_=>.no)
  |_=>.no)
 |o=>o
structure Callee(P:Program)(w:World)(K:PySem.W.Frag)(mg:Str->Option Value)(base:Heap)(x:Str)(k n:Nat)(g:List D->R D):Prop where
 ex:∃f fd ps,FnF P w K mg base k f fd ps g/\mg x=some (.ref f)/\PySem.W.keepIn K (.ref f)=true/\Binds K fd ps []/\ps.length=n
def B6{n:Nat}{g:List D->R D}{e:Expr}{p:Pos}(c:Callee X.prog X.w X.K X.mg X.base x k n g)(hr:Room k X.A)(ha:PFA X (e::es) gl)(hg:Gl X x:=by rfl)(hdb:(x==("__debug__":Str))=false:=by decide)(he:starEach (e::es) X.env=(false,eval e X.env)::starEach es X.env:=by rfl)(hpl:(backTo pos (starEach es X.env)).any (·.1)=false:=by rfl):
  PF X (.Call (.Name x p) (e::es) [] pos) (λρ=>gl ρ>>=λds=>if ds.length=n then g ds else .no):=by
 obtain⟨f,fd,ps,F,hm,hk,hb,rfl⟩:=c.ex;exact Ez F hr hg hm hk hb ha hdb he hpl
def FnF.to{w:World}{K:PySem.W.Frag}{mg:Str->Option Value}{base:Heap}{g g':List D->R D}(F:FnF P w K mg base k f fd ps g)(h:∀ds,ds.length=ps.length->g' ds=.no\/g ds=g' ds):FnF P w K mg base k f fd ps g':=by
 refine F.imp λvs H Q E ⟨hl,G,ds,sub,r,q⟩=>⟨hl,G,ds,sub,r,?_⟩
 rcases h ds (by rw[<- r.length];exact hl)with z|z;·rw[z]at q;exact q.elim
 ·rw[z];exact q
def Fun.callee{w:World}{K:PySem.W.Frag}{mg:Str->Option Value}{base:Heap}{g:List D->R D}(F:Fun K x x st f fd)(hm:mg x=some (.ref f))(ok:FnF P w K mg base k f fd ps g)(h:∀(kV doc pm:Value)(an:Option Addr)(cdv ct:Value)(us:List Value),us.length=ps.length->bindArgs (PySem.W.fnOf x x (eE st) (bb st) (aq st) .none kV doc pm an cdv ct) ⟨us,[]⟩=pure (ps.zip us)):Callee P w K mg base x k ps.length g:=
 ⟨f,fd,ps,ok,hm,F.kp,F.binds h,rfl⟩
def iK{T:String}{f:String->Bool}(h:∀K:PySem.W.Frag,PySem.W.kitOne K (.type "NoneType") (.type T)=some (f "NoneType")/\PySem.W.kitOne K (.type "bool") (.type T)=some (f "bool")/\PySem.W.kitOne K (.type "int") (.type T)=some (f "int")/\
 PySem.W.kitOne K (.type "str") (.type T)=some (f "str")/\PySem.W.kitOne K (.type "tuple") (.type T)=some (f "tuple")/\PySem.W.kitOne K (.type "list") (.type T)=some (f "list")):
  ∀K:PySem.W.Frag,∀t∈["NoneType","bool","int","str","tuple","list"],PySem.W.kitOne K (.type t) (.type T)=some (f t):=λK t ht=>by
 obtain⟨h1,h2,h3,h4,h5,h6⟩:=h K;simp only[List.mem_cons,List.mem_nil_iff,or_false]at ht;rcases ht with rfl|rfl|rfl|rfl|rfl|rfl <;> assumption
noncomputable def isInt(t:String):Bool:=t=="int" || t=="bool"
section
variable{e:Expr}{ga:Ev->R D}{p p2:Pos}
def Cl(hm:X.mg "isinstance"=none)(ha:PF X e ga)(hm2:X.mg "int"=none)(hg2:Gl X "int":=by rfl)(hg:Gl X "isinstance":=by rfl)(hs1:starEach [e,.Name "int" p2] X.env=(false,eval e X.env)::starEach [.Name "int" p2] X.env:=by rfl):PF X (.Call (.Name "isinstance" p) [e,.Name "int" p2] [] pos) (λρ=>ga ρ>>=km isInt):=
 mB (T:="int") isInt (iK λK=>⟨rfl,rfl,rfl,rfl,rfl,rfl⟩) hg hm hg2 hm2 PyProof.Rows.Boot.«int» ha hs1
def AR(hm:X.mg "isinstance"=none)(ha:PF X e ga)(hm2:X.mg "bool"=none)(hg2:Gl X "bool":=by rfl)(hg:Gl X "isinstance":=by rfl)(hs1:starEach [e,.Name "bool" p2] X.env=(false,eval e X.env)::starEach [.Name "bool" p2] X.env:=by rfl):PF X (.Call (.Name "isinstance" p) [e,.Name "bool" p2] [] pos) (λρ=>ga ρ>>=km (·=="bool")):=
 mB (T:="bool") (·=="bool") (iK λK=>⟨rfl,rfl,rfl,rfl,rfl,rfl⟩) hg hm hg2 hm2 PyProof.Rows.Boot.«bool» ha hs1
def B5(hm:X.mg "isinstance"=none)(ha:PF X e ga)(hm2:X.mg "str"=none)(hg2:Gl X "str":=by rfl)(hg:Gl X "isinstance":=by rfl)(hs1:starEach [e,.Name "str" p2] X.env=(false,eval e X.env)::starEach [.Name "str" p2] X.env:=by rfl):PF X (.Call (.Name "isinstance" p) [e,.Name "str" p2] [] pos) (λρ=>ga ρ>>=km (·=="str")):=
 mB (T:="str") (·=="str") (iK λK=>⟨rfl,rfl,rfl,rfl,rfl,rfl⟩) hg hm hg2 hm2 PyProof.Rows.Boot.«str» ha hs1
def xF(hm:X.mg "isinstance"=none)(ha:PF X e ga)(hm2:X.mg "tuple"=none)(hg2:Gl X "tuple":=by rfl)(hg:Gl X "isinstance":=by rfl)(hs1:starEach [e,.Name "tuple" p2] X.env=(false,eval e X.env)::starEach [.Name "tuple" p2] X.env:=by rfl):PF X (.Call (.Name "isinstance" p) [e,.Name "tuple" p2] [] pos) (λρ=>ga ρ>>=km (·=="tuple")):=
 mB (T:="tuple") (·=="tuple") (iK λK=>⟨rfl,rfl,rfl,rfl,rfl,rfl⟩) hg hm hg2 hm2 PyProof.Rows.Boot.«tuple» ha hs1
def AM(hm:X.mg "isinstance"=none)(ha:PF X e ga)(hm2:X.mg "list"=none)(hg2:Gl X "list":=by rfl)(hg:Gl X "isinstance":=by rfl)(hs1:starEach [e,.Name "list" p2] X.env=(false,eval e X.env)::starEach [.Name "list" p2] X.env:=by rfl):PF X (.Call (.Name "isinstance" p) [e,.Name "list" p2] [] pos) (λρ=>ga ρ>>=km (·=="list")):=
 mB (T:="list") (·=="list") (iK λK=>⟨rfl,rfl,rfl,rfl,rfl,rfl⟩) hg hm hg2 hm2 PyProof.Rows.Boot.«list» ha hs1
end
noncomputable def cG(ga:Ev->R D):Ev->O:=λρ=>(ga ρ).out ρ .rt
noncomputable def aI(g1 g2:Ev->O):Ev->O:=λρ=>(g1 ρ).seq g2
noncomputable def oIf(gt:Ev->R Bool)(g1 g2:Ev->O):Ev->O:=λρ=>(gt ρ).out ρ λk=>if k=true then g1 ρ else g2 ρ
noncomputable def oNx:Ev->O:=λρ=>.nx ρ
noncomputable def eY(i:Nat)(ga:Ev->R D):Ev->O:=λρ=>(ga ρ).out ρ λd=>.nx (ρ.set i (some (.val d)))
noncomputable def Ck(i:Nat)(gl:Ev->R (List D)):Ev->O:=λρ=>(gl ρ).out ρ λds=>.nx (ρ.set i (some (.own ds)))
noncomputable def ka(ga:Ev->R D):Ev->O:=λρ=>(ga ρ).out ρ λ_=>.nx ρ
noncomputable def wF(asg:D->Ev->R Ev)(gi:Ev->R (List D))(g:Ev->O):Ev->O:=λρ=>(gi ρ).out ρ λitems=>eG asg g items ρ
noncomputable def je(C:Addr)(gl:Ev->R (List D)):Ev->O:=λρ=>(gl ρ).out ρ λ_=>.ex C ρ
noncomputable def Nl(asg:D->Ev->R Ev)(ga:Ev->R D):Ev->O:=λρ=>(ga ρ).out ρ λd=>(asg d ρ).out ρ .nx
noncomputable def EW(i:Nat)(g:Ev->O):Ev->O:=λρ=>g (frz i ρ)
noncomputable def aJ{α β:Type}(f:α->R β)(ga:Ev->R α):Ev->R β:=λρ=>ga ρ>>=f
noncomputable def gOf(f:List D->Option D)(gl:Ev->R (List D)):Ev->R D:=λρ=>gl ρ>>=λds=>ofO (f ds)
noncomputable def aa(ga:Ev->R D)(gl:Ev->R (List D)):Ev->R (List D):=λρ=>ga ρ>>=λx=>gl ρ>>=λxs=>.ok (x::xs)
noncomputable def aL(n:Nat)(g:List D->R D)(gl:Ev->R (List D)):Ev->R D:=λρ=>gl ρ>>=λds=>if ds.length=n then g ds else .no
noncomputable def ck(gl:Ev->R (List D)):Ev->R D:=λρ=>gl ρ>>=λds=>.ok (.lst false ds)
noncomputable def xv(gl:Ev->R (List D)):Ev->R (List D):=λρ=>gl ρ>>=λds=>if ds.length<=sizeLine then .ok ds else .no
noncomputable def gB2(f:D->D->Option D)(ga gb:Ev->R D):Ev->R Bool:=λρ=>g2 f ga gb ρ>>=asB
noncomputable def gB3(f f':D->D->Option D)(ga gb gc:Ev->R D):Ev->R Bool:=λρ=>g3 f f' ga gb gc ρ>>=asB
noncomputable def gBn(gt:Ev->R Bool):Ev->R Bool:=λρ=>gt ρ>>=λk=>.ok (!k)
noncomputable def rR(ga:Ev->R D):Ev->R (Option Int):=λρ=>ga ρ>>=λx=>asI x>>=λi=>.ok (some i)
noncomputable def im(T:String)(f:D->List D->Option D)(ga:Ev->R D)(gl:Ev->R (List D)):Ev->R D:=λρ=>ga ρ>>=λx=>if nG T x=true then gl ρ>>=λds=>ofO (f x ds)else .no
def Callee.mono{w:World}{K:PySem.W.Frag}{mg:Str->Option Value}{base:Heap}{n:Nat}{g:List D->R D}(c:Callee P w K mg base x k n g)(k':Nat)(h:k<=k':=by decide):Callee P w K mg base x k' n g:=by obtain⟨f,fd,ps,F,hm,hk,hb,e⟩:=c.ex;exact⟨f,fd,ps,{ F with run:=λA outer s H args us vs Q E hr=>F.run A outer s H args us vs Q E (hr.mono h) },hm,hk,hb,e⟩
section
variable{dj body sa sb:List Stmt}{e a b c o:Expr}{gs1 gs2:Ev->O}{ga gc:Ev->R D}{gt:Ev->R Bool}{p p2:Pos}
def ak(h1:PSF X st gs1)(h2:oM X dj gs2):oM X (st::dj) (aI gs1 gs2):=wT h1 h2
def aK:oM X [] oNx:=AQ
def bB(he:PF X e ga):PSF X (.Return (some e) pos) (cG ga):=BW he
def jb(hc:PB X c gt)(ha:oM X sa gs1)(hb:oM X sb gs2):PSF X (.If c sa sb pos) (oIf gt gs1 gs2):=Ee hc ha hb
def KB(i:Nat)(hN:X.N.Nodup)(he:PF X e ga)(hi:X.N[i]?=some x:=by rfl)(hx:Loc X.env.scope x:=by first|exact Or.inl rfl|exact Or.inr rfl)(hs:swapsWithSole [.Name x p] e pos.line X.env=pure false:=by rfl)(hw:swappedStores [.Name x p] e X.env=pure none:=by rfl)(hf:X.fn x=true\/X.env.scope.names.lookup x=some .local:=by first|exact .inl rfl|exact .inr rfl):
  PSF X (.Assign [.Name x p] e pos) (eY i ga):=Ce i hN he hi hx hs hw hf
def Gv(i:Nat)(hN:X.N.Nodup)(he:PFL X e gl)(hi:X.N[i]?=some x:=by rfl)(hx:Loc X.env.scope x:=by first|exact Or.inl rfl|exact Or.inr rfl)(hs:swapsWithSole [.Name x p] e pos.line X.env=pure false:=by rfl)(hw:swappedStores [.Name x p] e X.env=pure none:=by rfl)(hf:X.fn x=true\/X.env.scope.names.lookup x=some .local:=by first|exact .inl rfl|exact .inr rfl):
  PSF X (.Assign [.Name x p] e pos) (Ck i gl):=BB i hN he hi hx hs hw hf
def hU(he:PF X e ga)(hs:swapsWith e none pos.line X.env=pure false:=by rfl):PSF X (.Expr e pos) (ka ga):=Ah he hs
def tY(hp:PassesOwn (model X.prog X.w) X.A X.env X.xe)(hcalm:X.calm=true)(hi:PIF X tg iter gi)(hg:PGF X tg asg)(hb:oM X body g)(hs:∀x,foldedSetIterable iter X.env x=pure x:=by intro _;rfl)(hn:∀d ρ C,asg d ρ≠.ex C:=by intro _ _ _ z;cases z):PSF X (.For tg iter body [] pos) (wF asg gi g):=CS hp hcalm hi hg hb hs hn
def dz(hg:Gl X "len")(hm:X.mg "len"=none)(ha:PFA X [e] gl)(he:starEach [e] X.env=[(false,eval e X.env)]:=by rfl):PF X (.Call (.Name "len" p) [e] [] pos) (gOf eI gl):=Jz hg hm ha he
def El(hc:X.calm=true)(hg:Gl X "all")(hm:X.mg "all"=none)(ha:PFA X [e] gl)(he:starEach [e] X.env=[(false,eval e X.env)]:=by rfl):PF X (.Call (.Name "all" p) [e] [] pos) (gOf CH gl):=IE hc hg hm ha he
def ac(ha:PF X e ga)(hr:PFA X es gl)(hs:starEach (e::es) X.env=(false,eval e X.env)::starEach es X.env:=by rfl):PFA X (e::es) (aa ga gl):=B8 ha hr hs
def aN{n:Nat}{f:List D->R D}(c:Callee X.prog X.w X.K X.mg X.base x k n f)(hr:Room k X.A)(ha:PFA X (e::es) gl)(hg:Gl X x:=by rfl)(hdb:(x==("__debug__":Str))=false:=by decide)(he:starEach (e::es) X.env=(false,eval e X.env)::starEach es X.env:=by rfl)(hpl:(backTo pos (starEach es X.env)).any (·.1)=false:=by rfl):
  PF X (.Call (.Name x p) (e::es) [] pos) (aL n f gl):=B6 c hr ha hg hdb he hpl
def iI{gens:List Comprehension}{sc:Scope}(h:PFL X (.ListComp e gens sc pos) gl):PF X (.ListComp e gens sc pos) (ck gl):=vY h
def wG(h:PFL X (.List es pos) gl):PF X (.List es pos) (ck gl):=vY h
def rP(h:PFA X es gl):PFL X (.List es pos) (xv gl):=EY h
def eZ(h:PFA X es gl):PF X (.Tuple es k pos) (aJ mkT gl):=HB h
def ss(ha:PF X a ga):PF X (.UnaryOp .USub a pos) (aJ ox ga):=Jq ha
def Fs(hm:X.mg "isinstance"=none)(ha:PF X e ga)(hm2:X.mg "int"=none)(hg2:Gl X "int":=by rfl)(hg:Gl X "isinstance":=by rfl)(hs1:starEach [e,.Name "int" p2] X.env=(false,eval e X.env)::starEach [.Name "int" p2] X.env:=by rfl):PF X (.Call (.Name "isinstance" p) [e,.Name "int" p2] [] pos) (aJ (km isInt) ga):=Cl hm ha hm2 hg2 hg hs1
def Bi(hm:X.mg "isinstance"=none)(ha:PF X e ga)(hm2:X.mg "bool"=none)(hg2:Gl X "bool":=by rfl)(hg:Gl X "isinstance":=by rfl)(hs1:starEach [e,.Name "bool" p2] X.env=(false,eval e X.env)::starEach [.Name "bool" p2] X.env:=by rfl):PF X (.Call (.Name "isinstance" p) [e,.Name "bool" p2] [] pos) (aJ (km (·=="bool")) ga):=AR hm ha hm2 hg2 hg hs1
def F0(hm:X.mg "isinstance"=none)(ha:PF X e ga)(hm2:X.mg "str"=none)(hg2:Gl X "str":=by rfl)(hg:Gl X "isinstance":=by rfl)(hs1:starEach [e,.Name "str" p2] X.env=(false,eval e X.env)::starEach [.Name "str" p2] X.env:=by rfl):PF X (.Call (.Name "isinstance" p) [e,.Name "str" p2] [] pos) (aJ (km (·=="str")) ga):=B5 hm ha hm2 hg2 hg hs1
def jY(hm:X.mg "isinstance"=none)(ha:PF X e ga)(hm2:X.mg "tuple"=none)(hg2:Gl X "tuple":=by rfl)(hg:Gl X "isinstance":=by rfl)(hs1:starEach [e,.Name "tuple" p2] X.env=(false,eval e X.env)::starEach [.Name "tuple" p2] X.env:=by rfl):PF X (.Call (.Name "isinstance" p) [e,.Name "tuple" p2] [] pos) (aJ (km (·=="tuple")) ga):=xF hm ha hm2 hg2 hg hs1
def zh(h:PF X e ga):PFO X (some e) (rR ga):=CN h
def Hm(ha:PF X a ga)(hb:PF X b gb):PB X (.Compare a [.Lt] [b] pos) (gB2 ltD ga gb):=Kb ha hb
def LI(ha:PF X a ga)(hb:PF X b gb):PB X (.Compare a [.LtE] [b] pos) (gB2 leD ga gb):=KH ha hb
def HR(ha:PF X a ga)(hb:PF X b gb):PB X (.Compare a [.Gt] [b] pos) (gB2 gtD ga gb):=Ki ha hb
def ug(hu:X.A.units+64<cLine)(ha:PF X a ga)(hb:PF X b gb):PB X (.Compare a [.Eq] [b] pos) (gB2 eqF ga gb):=J9 hu ha hb
def fW(hu:X.A.units+64<cLine)(ha:PF X a ga)(hb:PF X b gb):PB X (.Compare a [.NotEq] [b] pos) (gB2 neF ga gb):=Kf hu ha hb
def LX(ha:PF X a ga)(hb:PF X b gb):PB X (.Compare a [.Is] [b] pos) (gB2 isF ga gb):=K4 ha hb
def EU(ha:PF X a ga)(hb:PF X b gb)(hc:PF X c gc)(hm:lastMarks [.LtE,.LtE] [b,c]=false:=by with_unfolding_all rfl):PB X (.Compare a [.LtE,.LtE] [b,c] pos) (gB3 leD leD ga gb gc):=FU ha hb hc hm
def fC(ha:PB X a gt):PB X (.UnaryOp .Not a pos) (gBn gt):=Ha ha
def gB(h:PF X (.Call a es [] pos) ga):PB X (.Call a es [] pos) (aJ jU ga):=zy h
def md{op:BoolOp}(h:PBW X (.BoolOp op es pos) gt):PB X (.BoolOp op es pos) gt:=λpins s σ H Q I q=>h _ pins s σ H Q I q
def CT{ap cp:Pos}(ho:PF X o ga)(ha:PFA X [e] gl)(hbase:attributeBase o "rstrip" X.env (eval o X.env)=eval o X.env:=by rfl)(hfew:((backTo cp (starEach [e] X.env)).all (λx=>!x.1) && (backToKw cp (keywordEach [] X.env)).all (λx=>x.1.isSome)
 && decide ([e].length+([]:List Keyword).length+(if ([]:List Keyword).isEmpty then 0 else 1)<30))=true:=by rfl)(hline:(ap.endLine==cp.line)=true:=by rfl)(hs:starEach [e] X.env=(false,eval e X.env)::starEach [] X.env:=by rfl):
  PF X (.Call (.Attribute o "rstrip" ap) [e] [] cp) (im "str" jE ga gl):=yH ho ha hbase hfew hline hs
def gY(ha:PF X a ga):PIF X tg a (aJ ce ga):=E1 ha
def lS(hg:Gl X "range")(hm:X.mg "range"=none)(ha:PFA X [a] gl)(hs:starEach [a] X.env=[(false,eval a X.env)]:=by rfl):PIF X tg (.Call (.Name "range" p) [a] [] pos) (aJ ca gl):=xq hg hm ha hs
end
@[simp] theorem R.ok_out{α:Type}(a:α)(ρ:Ev)(k:α->O):(R.ok a).out ρ k=k a:=rfl
@[simp] theorem R.ex_out{α:Type}(C:Addr)(ρ:Ev)(k:α->O):(R.ex C:R α).out ρ k=.ex C ρ:=rfl
@[simp] theorem jt{α:Type}(a:α):fw (R.ok a)=R.ok a:=rfl
theorem jQ{gt:Ev->R Bool}{ge:Ev->R D}(p:D->Bool)(h:D->D)(tl:Ev):∀(ds:List D)(a:Option Sl),(∀d∈ds,gt (some (.val d)::tl)=.ok (p d)/\(p d=true->ge (some (.val d)::tl)=.ok (h d)))->fB gt ge ds (a::tl)=.ok ((ds.filter p).map h)
 | [],a,_=>rfl
 |d::ds,a,H=>by
  have ih:=jQ p h tl ds (some (.val d)) λx m=>H x (List.mem_cons_of_mem _ m);obtain⟨e1,e2⟩:=H d (List.mem_cons_self ..);show(fw (gt (some (.val d)::tl))>>=λk=>if k=true then fw (ge (some (.val d)::tl))>>=λx=>fB gt ge ds (some (.val d)::tl)>>=λxs=>.ok (x::xs)else fB gt ge ds (some (.val d)::tl))=_;rw[e1,jt,R.ok_bind,ih];cases q:p d with
  |true=>rw[if_pos rfl,e2 q,jt,R.ok_bind,R.ok_bind,List.filter_cons_of_pos q];rfl
  |false=>rw[if_neg Bool.false_ne_true,List.filter_cons_of_neg (by rw[q];exact Bool.false_ne_true)]
def iR{gt:Ev->R Bool}(h:D->D)(tl:Ev)(ds:List D)(a:Option Sl)(H:∀d∈ds,gt (some (.val d)::tl)=.ok true/\ge (some (.val d)::tl)=.ok (h d)):fB gt ge ds (a::tl)=.ok (ds.map h):=by rw[jQ (λ_=>true) h tl ds a λd m=>⟨(H d m).1,λ_=>(H d m).2⟩,List.filter_eq_self.2 λ_ _=>rfl]
def wv(f:D->Bool):∀ds:List D,AS (ds.map λd=>.bl (f d))=some (ds.map f)
 | []=>rfl
 |d::ds=>by
  have ih:=wv f ds;rw[List.map_cons,List.map_cons];unfold AS
  first|(rw[ih];rfl)|(simp only[ih];rfl)|simp[ih]
def lQ(f:D->Bool)(k:Bool)(ds:List D):CH [.lst k (ds.map λd=>.bl (f d))]=some (.bl (ds.all f)):=by show(AS (ds.map λd=>.bl (f d))).map _=_;rw[wv];show some (D.bl ((ds.map f).all id))=_;rw[List.all_map];rfl
def yj(a b:Nat):(!decide (([b]:List Nat)<[a]))=decide (a<=b):=by
 have:(([b]:List Nat)<[a]) ↔ b<a:=by
  constructor
  ·intro h;cases h with
   |rel h=>exact h
   |cons h=>cases h
  ·intro h;exact .rel h
 by_cases h:a<=b
 ·have h2 : ¬ ([b]:List Nat)<[a]:=λq=>by have:=this.1 q;omega
  simp[h,h2]
 ·have h2:([b]:List Nat)<[a]:=this.2 (by omega);simp[h,h2]
def dZ(hk:scope.kind=.function:=by rfl)(h1:(∀y∈scope.names,y.2≠.cell)/\(∀y∈scope.names,y.2=.local->scope.names.lookup y.1=some .local)/\scope.names.lookup x=some .local/\(∀y∈scope.names,y.2=.free->y.1∈N'.tail)/\N'.Nodup/\N'[0]?=some x/\
 ∀y∈N'.tail,scope.names.lookup y=some .free/\(y,NameKind.free)∈scope.names:=by decide +kernel)(h2:N'.tail.map X.env.kindOf=N'.tail.map λ_=>some NameKind.cell:=by rfl)(h3:N'.tail=ix.map (λ(i:Nat)=>X.N.getD i Str.empty):=by rfl)(h4:ix.all (λi=>decide (i<X.N.length))=true:=by rfl):CompOk X scope x N' ix:=by
 obtain⟨a,b,c,d,e,f,g⟩:=h1;refine⟨hk,a,b,c,λy hy h=>?_,e,f,h3,λi hi=>?_,g⟩;·exact List.map_inj_left.1 h2 _ (d y hy h)
 ·exact of_decide_eq_true (List.all_eq_true.1 h4 i hi)
def rd0(d:D)(ρ:Ev):rdV (some (.val d)::ρ) 0=.ok d:=rfl
def rd1(a0:Option Sl)(d:D)(ρ:Ev):rdV (a0::some (.val d)::ρ) 1=.ok d:=rfl
def rd2(a0 a1:Option Sl)(d:D)(ρ:Ev):rdV (a0::a1::some (.val d)::ρ) 2=.ok d:=rfl
def rd3(a0 a1 a2:Option Sl)(d:D)(ρ:Ev):rdV (a0::a1::a2::some (.val d)::ρ) 3=.ok d:=rfl
def rd4(a0 a1 a2 a3:Option Sl)(d:D)(ρ:Ev):rdV (a0::a1::a2::a3::some (.val d)::ρ) 4=.ok d:=rfl
def rd5(a0 a1 a2 a3 a4:Option Sl)(d:D)(ρ:Ev):rdV (a0::a1::a2::a3::a4::some (.val d)::ρ) 5=.ok d:=rfl
def rd6(a0 a1 a2 a3 a4 a5:Option Sl)(d:D)(ρ:Ev):rdV (a0::a1::a2::a3::a4::a5::some (.val d)::ρ) 6=.ok d:=rfl
section
variable{f:List D->R D}{ga gc gd:Ev->R D}
def D0:aL 1 f (aa ga λ_=>.ok []) ρ=ga ρ>>=λx=>f [x]:=by unfold aL aa;cases ga ρ <;> rfl
def Aj:aL 2 f (aa ga (aa gb λ_=>.ok [])) ρ=ga ρ>>=λx=>gb ρ>>=λy=>f [x,y]:=by
 unfold aL aa;cases ga ρ <;> try rfl
 simp only[aa,R.ok_bind];cases gb ρ <;> rfl
def yt:aL 3 f (aa ga (aa gb (aa gc λ_=>.ok []))) ρ=ga ρ>>=λx=>gb ρ>>=λy=>gc ρ>>=λz=>f [x,y,z]:=by
 unfold aL aa;cases ga ρ <;> try rfl
 simp only[aa,R.ok_bind];cases gb ρ <;> try rfl
 simp only[R.ok_bind];cases gc ρ <;> rfl
end
noncomputable def At(N:List Str)(i:Nat)(x:Str):Prop:=N[i]?=some x
def at0{l:List Str}:At (x::l) 0 x:=rfl
def at1{l:List Str}:At (y0::x::l) 1 x:=rfl
def at2{l:List Str}:At (y0::y1::x::l) 2 x:=rfl
def at3{l:List Str}{y2:Str}:At (y0::y1::y2::x::l) 3 x:=rfl
def at4{l:List Str}{y2 y3:Str}:At (y0::y1::y2::y3::x::l) 4 x:=rfl
def at5{l:List Str}{y2 y3 y4:Str}:At (y0::y1::y2::y3::y4::x::l) 5 x:=rfl
def at6{l:List Str}{y2 y3 y4 y5:Str}:At (y0::y1::y2::y3::y4::y5::x::l) 6 x:=rfl
def at7{l:List Str}{y2 y3 y4 y5 y6:Str}:At (y0::y1::y2::y3::y4::y5::y6::x::l) 7 x:=rfl
def at8{l:List Str}{y2 y3 y4 y5 y6 y7:Str}:At (y0::y1::y2::y3::y4::y5::y6::y7::x::l) 8 x:=rfl
section
variable{N:List Str}
def aj{w:World}{K:PySem.W.Frag}{mg:Str->Option Value}{base:Heap}{A:Around}{outer:List Env}{E:XK}(h:At N i x)(hv:Vis (fU CX P w K mg base N qual scope f cdv A outer s H E).env.scope x:=by first|exact Or.inl rfl|exact Or.inr (Or.inl rfl)|exact Or.inr (Or.inr rfl))(hd:(x==("__debug__":Str))=false:=by decide)(hcd:(x==("__classdict__":Str))=false:=by decide):PF (fU CX P w K mg base N qual scope f cdv A outer s H E) (.Name x pos) (λρ=>rdV ρ i):=AB i h hv hd hcd
def bL{s₂:Shared}{H₂:Hp}(h:At N i x)(hv:Vis (bK X N scope C s₂ H₂ fp).env.scope x:=by first|exact Or.inl rfl|exact Or.inr (Or.inl rfl)|exact Or.inr (Or.inr rfl))(hd:(x==("__debug__":Str))=false:=by decide)(hcd:(x==("__classdict__":Str))=false:=by decide):PF (bK X N scope C s₂ H₂ fp) (.Name x pos) (λρ=>rdV ρ i):=AB i h hv hd hcd
def dt{w:World}{K:PySem.W.Frag}{mg:Str->Option Value}{base:Heap}{A:Around}{outer:List Env}{E:XK}{e:Expr}{p:Pos}{ga:Ev->R D}(h:At N i x)(hN:N.Nodup)(he:PF (fU CX P w K mg base N qual scope f cdv A outer s H E) e ga)(hx:Loc (fU CX P w K mg base N qual scope f cdv A outer s H E).env.scope x:=by first|exact Or.inl rfl|exact Or.inr rfl)(hs:swapsWithSole [.Name x p] e pos.line (fU CX P w K mg base N qual scope f cdv A outer s H E).env=pure false:=by rfl)(hw:swappedStores [.Name x p] e (fU CX P w K mg base N qual scope f cdv A outer s H E).env=pure none:=by rfl)(hf:(fU CX P w K mg base N qual scope f cdv A outer s H E).fn x=true\/(fU CX P w K mg base N qual scope f cdv A outer s H E).env.scope.names.lookup x=some .local:=by first|exact .inl rfl|exact .inr rfl):
  PSF (fU CX P w K mg base N qual scope f cdv A outer s H E) (.Assign [.Name x p] e pos) (eY i ga):=KB i hN he h hx hs hw hf
end
def Fw{ga:Ev->R D}(h:aa ga (λ_=>.ok []) ρ=.ok ds):ds.length<=1:=by
 unfold aa at h;cases e:ga ρ with
 |ok x=>rw[e]at h;cases h;exact Nat.le_refl _
 |ex C=>rw[e]at h;cases h
 |no=>rw[e]at h;cases h
structure Ref(x:Str)(C:Addr)(mg:Str->Option Value)(base:Heap):Prop where
 ex:∃bm B newId initId,OwnCls x C bm newId mg base/\ExcBaseFacts B newId initId bm
def jq{e:Expr}{ga:Ev->R D}{np cp:Pos}(r:Ref x C X.mg X.base)(hh:X.A.handled=none)(ha:PF X e ga)(hg:Gl X x:=by rfl)(hdb:(x==("__debug__":Str))=false:=by decide)(hs:starEach [e] X.env=(false,eval e X.env)::starEach [] X.env:=by rfl):
  PSF X (.Raise (some (.Call (.Name x np) [e] [] cp)) none pos) (je C (aa ga λ_=>.ok [])):=by
 obtain⟨bm,B,newId,initId,Oc,FB⟩:=r.ex;exact wP Oc FB hh hg (ac ha af hs) hdb hs (λρ ds h=>Fw h)
def Un.but{fs:List Addr}(hs:Heap.SameBut C h h'):Un fs [C] H H h h':=by have ne:∀b,b∉[C]->b≠C:=λb hb z=>hb (by rw[z];exact List.mem_singleton.2 rfl);exact⟨λb o e _ _ hx=>(hs.2 b (ne b hx)).trans e,λb o e _ _ hx=>⟨o.slots,(hs.2 b (ne b hx)).trans e⟩,λ_ _ _ n _=>n,λb o e hx=>⟨o,(hs.2 b (ne b hx)).trans e⟩,λ_ _ e=>e,λ_ _ _ e=>e,λ_ ps e=>⟨#[],by rw[Array.append_empty];exact e⟩⟩
section
variable{elt:Expr}{ifs:List Expr}{px:Pos}{gt:Ev->R Bool}
def yF{n:Nat}(i:Nat){spos:Pos}(hN:X.N.Nodup)(ok:CompOkT X scope n N' ix)(hcalm:X.calm=true)(hg:∀C s₂ H₂ fp,PGF (bK X N' scope C s₂ H₂ fp) tgt asg)(hown:∀d ρ ρ',asg d ρ=.ok ρ'->(NoOwn ρ)->NoOwn ρ')(hi:PIF X tgt iter gi)(he:∀C s₂ H₂ fp,PF (bK X N' scope C s₂ H₂ fp) elt ge)(ht:∀C s₂ H₂ fp,PTs (bK X N' scope C s₂ H₂ fp) ifs gt)(hni:X.N[i]?=some y:=by rfl)(hy:X.env.scope.names.lookup y=some .local:=by rfl)(hs:∀x,foldedSetIterable iter X.env x=pure x:=by intro _;rfl)(hsw:swapsWith (.ListComp elt [⟨tgt,iter,ifs,0⟩] scope pos) (some (.Name y py)) spos.line X.env=pure true:=by rfl){D:Ends}(I:Inv X pins σ H s)(sE:StE X.K G H σ ρ)(hq:(kh n asg gi ix gt ge ρ).post (tR X.K G H λv H1=>D.nx (σ.set i (some v)) H1) (Exx X σ G H)):
  wpAny (model X.prog X.w) X.A (exec (.Assign [.Name y py] (.ListComp elt [⟨tgt,iter,ifs,0⟩] scope pos) spos) X.env) (SP X pins D) X.xe s:=by
 rw[exec_Assign_Name_used _ _ _ _ hsw];refine wpAny_bind (wpAny_standAt (wpAny_bind ?_));show wpAny _ X.A (do let _ <- comprehension (.ListComp elt [⟨tgt,iter,ifs,0⟩] scope pos) scope X.env _ (newList []) false (eval iter X.env) (some (assign (.Name y py) X.env))) _ _ s;refine wpAny_bind (wpAny_mono (wpAny_comprehension_free (use:=some (assign (.Name y py) X.env)) (Q:=λ_ s'=>SP X pins D .next s') rfl hs (eN λz hz hz2=>I.ok.has z.1 (.inl (ok.fr z hz hz2))) ok.kind ok.names ?_) (λ_ s' hq=>wpAny_pure (wpAny_pure hq)) λ_ _ e=>e);have t:tG X (λG J items=>ItOk X.K G J items) gi σ H (λJ H1=>∃G1 items,Up G H G1 H1/\StE X.K G1 H1 σ ρ/\ItOk X.K G1 J items/\(eA asg gt ge items (de n ix ρ)>>=λds=>if ds.length<=sizeLine then R.ok ds else .no).post (tR X.K G H λv H1=>D.nx (σ.set i (some v)) H1) (Exx X σ G H)):=by
  refine⟨G,ρ,sE,?_⟩;unfold kh at hq;cases e:gi ρ with
  |ok items=>rw[e]at hq;exact λJ G1 H1 u r=>⟨G1,items,u,sE.up u,r,hq⟩
  |ex C=>rw[e]at hq;exact hq
  |no=>rw[e]at hq;exact hq
 refine thn (hi pins s σ H _ I t) λv s1 h1=>thn h1 λitv s2 h2=>?_;obtain⟨it,fp,tn,J,H2,e,I2,T,st2,f2,G2,items,u2,sE2,iok,h2⟩:=h2;subst e;have h2':(eA asg gt ge items (de n ix ρ)>>=λds=>if ds.length<=sizeLine then R.ok ds else .no).post (tR X.K G2 H2 λv H1=>D.nx (σ.set i (some v)) H1) (Exx X σ G2 H2):=
  h2.mono (λds q l vs G' H' u hl r=>q l vs G' H' (u2.trans u) hl r) λC q=>q.up u2;refine jF (iter:=iter) (pos:=pos) (RR:=λacc C=>compPost (model X.prog X.w) X.A X.xe (some (assign (.Name y py) X.env)) (λ_ s'=>SP X pins D .next s') acc C) ok hcalm hg hown he ht I2 T st2 f2 sE2 iok h2' ?_;intro Dd C s' m vs G' H' up hd hCD _ q hm hos hb hC hCl un hok;have I3:Inv X pins σ (upd H' Dd (.lst vs)) s':=I2.call' (ch:=fp) hos un hok hb λb hb'=>by
  obtain⟨f0,f1,f2',f3,f4,f5⟩:=f2 b hb';exact⟨f3,f1,f4,f5⟩
 have lc:X.env.locals≠C:=Nat.ne_of_lt (Nat.lt_of_lt_of_le I2.lt hCl);have cc:∀z c,X.env.cells.lookup z=some c->c≠C:=λz c e=>by obtain⟨v,q⟩:=I2.cell z c e;exact Nat.ne_of_lt (Nat.lt_of_lt_of_le q.lt hCl)
 show wpAny (model X.prog X.w) X.A (assign (.Name y py) X.env (.ref Dd)) _ X.xe s';refine wpAny_assign_Name (sP I3 hN hni (.inl hy) (v:=.ref Dd) rfl (λs'' I4 ⟨a,hsb,ha⟩=>?_) (.inr hy));have na:C≠a:=by
  rcases ha with rfl|ha;·exact lc.symm
  ·exact(cc _ _ ha).symm
 refine⟨m,hm.sameBut hsb na,λh' hs'=>?_⟩;have I5:=I4.call' (s':={ s'' with heap:=h' }) (H':=upd H' Dd (.lst vs)) (ch:=[C]) rfl (Un.but hs') (I4.hok.sameBut (λb o hbc e=>(hs'.2 b hbc).trans e) (by rw[aH hCD];exact hC)) I4.bare λb hb'=>by rw[List.mem_singleton.1 hb'];exact⟨.inr (Nat.le_trans I2.sz hCl),lc.symm,cc,λp hp z=>Nat.lt_irrefl _ (Nat.lt_of_lt_of_le (z▸Heap.lt_size (I2.pin p hp).1) hCl)⟩
 exact⟨_,_,I5,q⟩
def BG{n:Nat}(i:Nat){spos:Pos}(hN:X.N.Nodup)(ok:CompOkT X scope n N' ix)(hcalm:X.calm=true)(hg:∀C s₂ H₂ fp,PGF (bK X N' scope C s₂ H₂ fp) tgt asg)(hown:∀d ρ ρ',asg d ρ=.ok ρ'->(NoOwn ρ)->NoOwn ρ')(hi:PIF X tgt iter gi)(he:∀C s₂ H₂ fp,PF (bK X N' scope C s₂ H₂ fp) elt ge)(ht:∀C s₂ H₂ fp,PTs (bK X N' scope C s₂ H₂ fp) ifs gt)(hni:X.N[i]?=some y:=by rfl)(hy:X.env.scope.names.lookup y=some .local:=by rfl)(hs:∀x,foldedSetIterable iter X.env x=pure x:=by intro _;rfl)(hsw:swapsWith (.ListComp elt [⟨tgt,iter,ifs,0⟩] scope pos) (some (.Name y py)) spos.line X.env=pure true:=by rfl):
  PSF X (.Assign [.Name y py] (.ListComp elt [⟨tgt,iter,ifs,0⟩] scope pos) spos) (Ck i (kh n asg gi ix gt ge)):=λG₀ H₀ pins s σ H D I h=>by
 obtain⟨G,ρ,sr,h⟩:=h;have h:jH X G₀ H₀ D ((kh n asg gi ix gt ge ρ).out ρ λds=>.nx (ρ.set i (some (.own ds)))):=h;refine yF i hN ok hcalm hg hown hi he ht hni hy hs hsw I sr.e ?_;cases q:kh n asg gi ix gt ge ρ with
 |ok ds=>rw[q]at h;exact λl vs G' H' u hl r=>h _ G' _ ((sr.ups u).setOwn hl r i)
 |ex C=>rw[q]at h;exact Exx.of sr h
 |no=>rw[q]at h;exact h
def zj(i:Nat){spos:Pos}(hN:X.N.Nodup)(ok:CompOk X scope x N' ix)(hcalm:X.calm=true)(hi:PIF X (.Name x px) iter gi)(he:∀C s₂ H₂ fp,PF (bK X N' scope C s₂ H₂ fp) elt ge)(ht:∀C s₂ H₂ fp,PTs (bK X N' scope C s₂ H₂ fp) ifs gt)(hni:X.N[i]?=some y:=by rfl)(hy:X.env.scope.names.lookup y=some .local:=by rfl)(hs:∀x,foldedSetIterable iter X.env x=pure x:=by intro _;rfl)(hsw:swapsWith (.ListComp elt [⟨.Name x px,iter,ifs,0⟩] scope pos) (some (.Name y py)) spos.line X.env=pure true:=by rfl):
  PSF X (.Assign [.Name y py] (.ListComp elt [⟨.Name x px,iter,ifs,0⟩] scope pos) spos) (Ck i (fy gi ix gt ge)):=
 BG (n:=1) (asg:=lI 0) i hN ok.t hcalm (λC s₂ H₂ fp=>fE (X:=bK X N' scope C s₂ H₂ fp) (pos:=px) 0 ok.nd ok.hd (.inl (lookup_relabel_local ok.loc)) (.inr (lookup_relabel_local ok.loc))) qt hi he ht hni hy hs hsw
end
noncomputable def ME(i:Nat)(ga:Ev->R D):Ev->O:=λρ=>(ownAt ρ i).out ρ λds=>(ga ρ).out ρ λd=>(asL d).out ρ λes=>if ds.length+es.length<=sizeLine then .nx (ρ.set i (some (.own (ds++es))))else .no
noncomputable def JW(i:Nat)(ga:Ev->R D):Ev->O:=λρ=>(ownAt ρ i).out ρ λds=>(ga ρ).out ρ λd=>if ds.length<sizeLine then .nx (ρ.set i (some (.own (ds++[d]))))else .no
noncomputable def ML(i j:Nat)(gl:Ev->R (List D)):Ev->O:=λρ=>(gl ρ).out ρ λds=>(qx [i,j] ds ρ).out ρ .nx
section
variable{dj body:List Stmt}{e c o:Expr}{ga:Ev->R D}{p p2:Pos}
def CC(i:Nat){p ap cp:Pos}(he:PF X e ga)(hi:X.N[i]?=some x:=by rfl)(hv:Vis X.env.scope x:=by first|exact Or.inl rfl|exact Or.inr (Or.inl rfl))(hd:(x==("__debug__":Str))=false:=by decide)(hcd:(x==("__classdict__":Str))=false:=by decide)(hs1:starEach [e] X.env=(false,eval e X.env)::starEach [] X.env:=by rfl)(hbase:attributeBase (.Name x p) "append" X.env (eval (.Name x p) X.env)=eval (.Name x p) X.env:=by rfl)(hfew:((backTo cp (starEach [e] X.env)).all (λx=>!x.1) && (backToKw cp (keywordEach [] X.env)).all (λx=>x.1.isSome)
 && decide ([e].length+([]:List Keyword).length+(if ([]:List Keyword).isEmpty then 0 else 1)<30))=true:=by rfl)(hline:(ap.endLine==cp.line)=true:=by rfl)(hs:swapsWith (.Call (.Attribute (.Name x p) "append" ap) [e] [] cp) none pos.line X.env=pure false:=by rfl):
  PSF X (.Expr (.Call (.Attribute (.Name x p) "append" ap) [e] [] cp) pos) (JW i ga):=uy i he hi hv hd hcd hs1 hbase hfew hline hs
def Fa(h:PF X (.Name x pos) ga):PB X (.Name x pos) (aJ jU ga):=zy h
def Bq{sts:List Stmt}(i:Nat)(h:oM X sts g):oM X sts (EW i g):=yQ i h
end
structure Errs(K:PySem.W.Frag)(mg:Str->Option Value)(rs:List Addr)(ts:List (Str×Addr)):Prop where
 na:∀t∈ts,mg t.1=some (.ref t.2)
 ec:∀r∈rs,ExcCls K r
 kit:∀r∈rs,∀t∈ts,PySem.W.kitOne K (.ref r) (.ref t.2)=some (r==t.2)
 ve:∀r∈rs,PySem.W.kitOne K (.ref r) (.type "ValueError")=some true
 le:∃L,mg "LineError"=some (.ref L)/\∀r∈rs,PySem.W.exmOne K (.ref r) (.ref L)=some true
noncomputable def fl:Nat->D->Bool
 | 0,_=>false
 |n+1,.tup xs=>xs.all (fl n)
 |_+1,.lst _ _=>false
 |_+1,.exc _=>false
 |_+1,.dct _ _=>false
 |_+1,_=>true
def yT{K:PySem.W.Frag}{G G2:Hp}{n:Nat}(ih:∀v d,fl n d=true->Rep K G v d->Rep K G2 v d):∀{vs:List V}{ds:List D},ds.all (fl n)=true->Reps K G vs ds->Reps K G2 vs ds
 |_,_,_,.nil=>.nil
 |_,_,h,.cons r t=>by rw[List.all_cons,Bool.and_eq_true]at h;exact .cons (ih _ _ h.1 r) (yT ih h.2 t)
def ya{K:PySem.W.Frag}{G G2:Hp}(h:∀a o,G a=some o->(∀vs,o≠HO.lst vs)->G2 a=some o):∀(n:Nat)(v:V)(d:D),fl n d=true->Rep K G v d->Rep K G2 v d
 | 0,_,_,hf,_=>by simp[fl]at hf
 |n+1,v,d,hf,r=>by
  cases r with
  |non=>exact .non
  |bl b=>exact .bl b
  |int i=>exact .int i
  |str x hx=>exact .str x hx
  |tup hs t=>
   refine .tup ?_ (yT (λv d=>ya h n v d) hf t);rcases hs with (q|⟨o,q⟩)|q;·exact .inl (.inl (h _ _ q λvs z=>by cases z))
   ·exact .inl (.inr ⟨o,h _ _ q λvs z=>by cases z⟩)
   ·exact .inr q
  |lst hs t=>simp[fl]at hf
  |fls hs t=>simp[fl]at hf
  |exc hs=>simp[fl]at hf
  |dct _ _ _=>simp[fl]at hf
def StR.peek{K:PySem.W.Frag}{H₀:Hp}(s:StR K G₀ H₀ G H σ ρ)(i:Nat):∃G1,StE K G1 H σ (L2.frz i ρ)/\
  ∀G' H',Up G1 H G' H'->∃G2,Up G H G2 H'/\∀a o,G' a=some o->(∀vs,o≠HO.lst vs)->G2 a=some o:=by
 obtain⟨G1,sr,e|⟨l,vs,hl,e⟩⟩:=s.frzTo i;·subst e;exact⟨G1,sr.e,λG' H' u=>⟨G',u,λa o q _=>q⟩⟩
 ·subst e;refine⟨_,sr.e,λG' H' u=>⟨λa=>if a=l then none else G' a,⟨λa o q=>?_,λa o q=>?_,u.hh,λa o q=>?_⟩,λa o q hq=>?_⟩⟩
  ·have q:(if a=l then none else G' a)=some o:=q;split at q;·cases q
   ·exact u.sub a o q
  ·have ne:a≠l:=λz=>by subst z;rw[hl]at q;cases q
   show(if a=l then none else G' a)=some o;rw[if_neg ne];exact u.gg a o (by rw[aH ne];exact q)
  ·have q:(if a=l then none else G' a)=some o:=q;split at q;·cases q
   ·rename_i ne;rcases u.fr a o q with z|z;·rw[aH ne]at z;exact .inl z
    ·exact .inr z
  ·have ne:a≠l:=λz=>by subst z;have:=u.gg a _ aS;rw[q]at this;cases this;exact hq vs rfl
   show(if a=l then none else G' a)=some o;rw[if_neg ne];exact q
section
variable{dj body a b:List Stmt}{e c:Expr}{g1 g2:Ev->O}{ga:Ev->R D}{gt:Ev->R Bool}
noncomputable def MG(i:Nat)(gt:Ev->R Bool)(g1 g2:Ev->O):Ev->O:=λρ=>(fw (gt (frz i ρ))).out ρ λk=>if k=true then g1 ρ else g2 ρ
noncomputable def ER(j i:Nat)(ga:Ev->R D):Ev->O:=λρ=>(fw (ga (frz j ρ))).out ρ λd=>if fl 10 d=true then .nx (ρ.set i (some (.val d)))else .no
def IB(j i:Nat){p:Pos}(hN:X.N.Nodup)(he:PF X e ga)(hi:X.N[i]?=some x:=by rfl)(hx:Loc X.env.scope x:=by first|exact Or.inl rfl|exact Or.inr rfl)(hs:swapsWithSole [.Name x p] e pos.line X.env=pure false:=by rfl)(hw:swappedStores [.Name x p] e X.env=pure none:=by rfl)(hf:X.fn x=true\/X.env.scope.names.lookup x=some .local:=by first|exact .inl rfl|exact .inr rfl):
  PSF X (.Assign [.Name x p] e pos) (ER j i ga):=λG₀ H₀ pins s σ H D I h=>by
 refine jf he (fR (i:=i) hN hi hx hf) hs hw rfl pins s σ H D I ?_;obtain⟨G,ρ,sr,h⟩:=h;have h:jH X G₀ H₀ D ((fw (ga (frz j ρ))).out ρ λd=>if fl 10 d=true then .nx (ρ.set i (some (.val d)))else .no):=h;obtain⟨G1,st1,pk⟩:=sr.peek j;refine⟨G1,_,st1,?_⟩;cases q:ga (frz j ρ)with
 |ok d=>
  rw[q]at h;intro v G' H' u r;obtain⟨G2,u2,tr⟩:=pk G' H' u;have h:jH X G₀ H₀ D (if fl 10 d=true then .nx (ρ.set i (some (.val d)))else .no):=h;by_cases hfl:fl 10 d=true;·rw[if_pos hfl]at h;exact h _ G2 _ ((sr.ups u2).set (ya tr 10 v d hfl r) i)
  ·rw[if_neg hfl]at h;exact h.elim
 |_=>rw[q]at h;exact h.elim
noncomputable def KZ(j i:Nat)(ga:Ev->R D):Ev->O:=λρ=>(ownAt ρ i).out ρ λds=>(fw (ga (frz j ρ))).out ρ λd=>if ds.length<sizeLine/\fl 10 d=true then .nx (ρ.set i (some (.own (ds++[d]))))else .no
noncomputable def FJ(i:Nat)(gk ga:Ev->R D):Ev->O:=λρ=>(ownAt ρ i).out ρ λds=>(fw (ga (frz i ρ))).out ρ λd=>(fw (gk (frz i ρ)>>=asI)).out ρ λk=>match ixN ds.length k with
 |some n=>if fl 10 d=true then .nx (ρ.set i (some (.own (ds.set n d))))else .no
 |none=>.no
def Gr(i:Nat){p tp:Pos}{ix:Expr}{gk:Ev->R D}(he:PF X e ga)(hk:PF X ix gk)(hi:X.N[i]?=some x:=by rfl)(hv:Vis X.env.scope x:=by first|exact Or.inl rfl|exact Or.inr (Or.inl rfl))(hd:(x==("__debug__":Str))=false:=by decide)(hcd:(x==("__classdict__":Str))=false:=by decide)(hs:swapsWithSole [.Subscript (.Name x p) ix tp] e pos.line X.env=pure false:=by rfl)(hw:swappedStores [.Subscript (.Name x p) ix tp] e X.env=pure none:=by rfl)(h1':(assignEach [.Subscript (.Name x p) ix tp] X.env).map (·.2)=[assign (.Subscript (.Name x p) ix tp) X.env]:=by rfl)(ha:∀v,assign (.Subscript (.Name x p) ix tp) X.env v=(do
 let ov <- holding [v] (eval (.Name x p) X.env);let iv <- holding [v,ov] (eval ix X.env)
 standAt tp
 holding [v,ov,iv] (setItem ov iv v)
 release [v,ov,iv] []):=by intro _;rfl):
  PSF X (.Assign [.Subscript (.Name x p) ix tp] e pos) (FJ i gk ga):=λG₀ H₀ pins s σ H D I h=>by
 refine jf he (DD (dv hi hv hd hcd) hk Bk ha) hs hw h1' pins s σ H D I ?_;obtain⟨G,ρ,sr,h⟩:=h;have h:jH X G₀ H₀ D ((ownAt ρ i).out ρ λds=>(fw (ga (frz i ρ))).out ρ λd=>(fw (gk (frz i ρ)>>=asI)).out ρ λk=>match ixN ds.length k with
  |some n=>if fl 10 d=true then .nx (ρ.set i (some (.own (ds.set n d))))else .no
  |none=>.no):=h;obtain⟨ds,e1,h⟩:=ownAt.ok h;obtain⟨l,vs,h1,h2,h3,h4,h5⟩:=sr.own i ds e1;obtain⟨G1,st1,pk⟩:=sr.peek i;refine⟨G1,_,st1,?_⟩;cases q:ga (frz i ρ)with
 |ok d=>
  rw[q]at h;intro v G' H' u r;have h:jH X G₀ H₀ D ((fw (gk (frz i ρ)>>=asI)).out ρ λk=>match ixN ds.length k with
   |some n=>if fl 10 d=true then .nx (ρ.set i (some (.own (ds.set n d))))else .no
   |none=>.no):=h;show LY _ _ _ v σ H' _;refine⟨.ref l,h1,G',_,st1.up u,?_⟩;cases q2:gk (frz i ρ)with
  |ok kd=>
   rw[q2]at h;intro kv G'' H'' u' rk;cases rk with
   |int k=>
    have h:jH X G₀ H₀ D (match ixN ds.length k with
     |some n=>if fl 10 d=true then .nx (ρ.set i (some (.own (ds.set n d))))else .no
     |none=>.no):=h;obtain⟨G2,u2,tr⟩:=pk G'' H'' (u.trans u');cases q3:ixN ds.length k with
    |none=>rw[q3]at h;exact h.elim
    |some n=>
     rw[q3]at h;have h:jH X G₀ H₀ D (if fl 10 d=true then .nx (ρ.set i (some (.own (ds.set n d))))else .no):=h;by_cases hz:fl 10 d=true;·rw[if_pos hz]at h;refine⟨l,vs,k,n,rfl,rfl,(u.trans u').hh _ _ h2,by rw[h5.length];exact q3,h _ G2 _ ?_⟩;exact(sr.ups u2).mut e1 h1 (.set (ya tr 10 v d hz (r.mono u'.gg)) n (h5.mono u2.gg))
     ·rw[if_neg hz]at h;exact h.elim
   |_=>exact h.elim
  |_=>rw[q2]at h;exact h.elim
 |_=>rw[q]at h;exact h.elim
noncomputable def MQ:D->R (List D)
 |.lst _ xs=>.ok xs
 |.tup xs=>.ok xs
 |_=>.no
noncomputable def Fz:List D->R (List D)
 | [d]=>MQ d
 |_=>.no
noncomputable def FO(gl:Ev->R (List D)):Ev->R (List D):=λρ=>gl ρ>>=Fz
def wV{p:Pos}(hg:Gl X "list")(hm:X.mg "list"=none)(ha:PFA X [e] gl)(he:starEach [e] X.env=(false,eval e X.env)::starEach [] X.env:=by rfl):PFL X (.Call (.Name "list" p) [e] [] pos) (FO gl):=by
 intro pins s σ H Q I hq;refine mZ tz hg hm PyProof.Rows.Boot.«list» ha (by decide) (by decide) he rfl pins s σ H Q I ?_;obtain⟨G,ρ,st,hq⟩:=hq;have hq:(gl ρ>>=Fz).post (tR X.K G H Q) (Exx X σ G H):=hq;refine⟨G,ρ,st,?_⟩;cases q:gl ρ with
 |ok ds=>
  rw[q]at hq;intro vs G' H' u r;have hq:(Fz ds).post (tR X.K G H Q) (Exx X σ G H):=hq;unfold Fz at hq;split at hq
  ·obtain⟨v,rfl,rv⟩:=r.one;cases rv with
   |lst hs t=>exact⟨_,_,rfl,.inl (.of (u.sub _ _ hs)),λl hl=>hq l _ G' H' u hl t⟩
   |fls hs t=>exact⟨_,_,rfl,.inl (hs.mono u.sub),λl hl=>hq l _ G' H' u hl t⟩
   |tup hs t=>exact⟨_,_,rfl,.inr (hs.mono u.sub),λl hl=>hq l _ G' H' u hl t⟩
   |_=>exact hq.elim
  ·exact hq.elim
 |ex C=>rw[q]at hq;exact hq
 |no=>rw[q]at hq;exact hq
def D7{a b c:Expr}{ga gc:Ev->R D}(ha:PF X a ga)(hb:PF X b gb)(hc:PF X c gc)(hm:lastMarks [.LtE,.Lt] [b,c]=false:=by with_unfolding_all rfl):PB X (.Compare a [.LtE,.Lt] [b,c] pos) (gB3 leD ltD ga gb gc):=vN lX DM (uL _) (IZ _) ha hb hc hm
def yy{a b:Expr}{p:Pos}(hg:Gl X "range")(hm:X.mg "range"=none)(ha:PFA X [a,b] gl)(hs:starEach [a,b] X.env=[(false,eval a X.env),(false,eval b X.env)]:=by rfl)(hs2:starEach [b] X.env=[(false,eval b X.env)]:=by rfl):PIF X tg (.Call (.Name "range" p) [a,b] [] pos) (aJ eF gl):=xO hg hm ha hs hs2
end
end L2
namespace L2
open PySem PySem.Spec PyProof.Rows PySem.W
noncomputable def qd:List D->Option (List Int)
 | []=>some []
 |.int i::ds=>(qd ds).map (i::·)
 |_=>none
def Reps.nums{K:PySem.W.Frag}:∀{vs:List V}{ds:List D}{ns:List Int},Reps K G vs ds->qd ds=some ns->vs=ns.map V.int
 |_,_,_,.nil,h=>by cases h;rfl
 |_,_,ns,.cons (d:=d) r t,h=>by
  cases d <;> first|(cases h;done)|skip
  rename_i x;rename_i ds';cases q:qd ds' with
  |none=>simp[qd,q]at h
  |some zs=>simp[qd,q]at h;subst h;rw[Reps.nums t q,r.int_inv];rfl
section
def wu{e:Expr}{ga:Ev->R D}{p p2:Pos}(hm:X.mg "isinstance"=none)(ha:PF X e ga)(hm2:X.mg "list"=none)(hg2:Gl X "list":=by rfl)(hg:Gl X "isinstance":=by rfl)(hs1:starEach [e,.Name "list" p2] X.env=(false,eval e X.env)::starEach [.Name "list" p2] X.env:=by rfl):PF X (.Call (.Name "isinstance" p) [e,.Name "list" p2] [] pos) (aJ (km (·=="list")) ga):=AM hm ha hm2 hg2 hg hs1
end
end L2
namespace L2
open PySem PySem.Spec PyProof.Rows
open Sem (wp)
open AutoSeq1 (wpAny_loadPart')
def GW:isSubtype (.type "enumerate") (.type "enumerate")=pure true:=PySem.sub_enumerate
def D8(l:Addr)(its:Array Value)(n:Nat)(dct:Option Addr)(sl:Array (Option Value)):
  Meets (Builtin.«enumerate.__new__» ⟨[.type "enumerate",.ref l],[]⟩) (λ_ Rr s=>s.heap.get? l=some { cls:=.type "tuple",dict:=dct,data:=.seq its n,slots:=sl }/\
   Rr (.ok (.ret (.ref (s.heap.push { cls:=.type "tuple_iterator",data:=.fields #[.ref l,.int 0 0] }).objs.size)))
    { s with heap:=(s.heap.push { cls:=.type "tuple_iterator",data:=.fields #[.ref l,.int 0 0] }).push { cls:=.type "enumerate",data:=.fields #[.none,.bool false,.ref s.heap.objs.size,rawInt 0,.none,.none] } }):=
 .of_wp λprog w A Rr s h=>by
  obtain⟨hp,g,d,tk,os⟩:=s;obtain⟨hl,h⟩:=h;have hsub:=GW;have hT:Heap.IsTuple (Shared.heap ⟨hp,g,d,tk,os⟩) l its:=⟨_,hl,rfl,n,rfl⟩
  wp_walk using wpAny_loadPart' hl
  refine wpAny_stack_any λst=>wpAny_pure ?_;split;·rename_i c _ _ _ _ _;cases (c==Value.type "enumerate") <;> (wp_walk using wpAny_loadPart' hl,wpAny_pyIter_tuple hT;exact⟨_,rfl,h⟩)
  ·wp_walk using wpAny_loadPart' hl,wpAny_pyIter_tuple hT
   exact⟨_,rfl,h⟩
section
variable{prog:Program}{w:World}{A:Around}
def E2{itT:String}{l:Addr}{c:Int}{Q:Value->Shared->Prop}(h:∀h',IsEnum h' (s.heap.objs.size+1) s.heap.objs.size c .none->h'.get? s.heap.objs.size=some { cls:=.type itT,data:=.fields #[.ref l,.int 0 0] }->h'.objs.size=s.heap.objs.size+2->
 (∀b o,s.heap.get? b=some o->h'.get? b=some o)->Q (.ref (s.heap.objs.size+1)) { s with heap:=h' }):
  wants (λobj s₁=>s₁.TypeIs obj "enumerate"/\Q obj s₁) E (.ok (.ret (.ref (s.heap.push { cls:=.type itT,data:=.fields #[.ref l,.int 0 0] }).objs.size)))
   { s with heap:=(s.heap.push { cls:=.type itT,data:=.fields #[.ref l,.int 0 0] }).push { cls:=.type "enumerate",data:=.fields #[.none,.bool false,.ref s.heap.objs.size,rawInt c,.none,.none] } }:=by
 have hz:(s.heap.push { cls:=.type itT,data:=.fields #[.ref l,.int 0 0] }).objs.size=s.heap.objs.size+1:=Heap.size_push ..;have he:IsEnum ((s.heap.push { cls:=.type itT,data:=.fields #[.ref l,.int 0 0] }).push { cls:=.type "enumerate",data:=.fields #[.none,.bool false,.ref s.heap.objs.size,rawInt c,.none,.none] }) (s.heap.objs.size+1) s.heap.objs.size c .none:=by have q:=Heap.get?_push_size (s.heap.push { cls:=.type itT,data:=.fields #[.ref l,.int 0 0] }) (o:={ cls:=.type "enumerate",data:=.fields #[.none,.bool false,.ref s.heap.objs.size,rawInt c,.none,.none] }) rfl;rw[hz]at q;exact q
 show _/\_;rw[hz];exact⟨⟨_,he,rfl⟩,h _ he (Heap.get?_push_of_some _ (Heap.get?_push_size _ rfl)) (by rw[Heap.size_push,hz]) λb o x=>Heap.get?_push_of_some _ (Heap.get?_push_of_some _ x)⟩
def A2{l:Addr}{its:Array Value}{n:Nat}{dct:Option Addr}{sl:Array (Option Value)}{Q:Value->Shared->Prop}(hl:s.heap.get? l=some { cls:=.type "tuple",dict:=dct,data:=.seq its n,slots:=sl })(h:∀h',IsEnum h' (s.heap.objs.size+1) s.heap.objs.size 0 .none->h'.get? s.heap.objs.size=some { cls:=.type "tuple_iterator",data:=.fields #[.ref l,.int 0 0] }->h'.objs.size=s.heap.objs.size+2->
 (∀b o,s.heap.get? b=some o->h'.get? b=some o)->Q (.ref (s.heap.objs.size+1)) { s with heap:=h' }):
  wpAny (model prog w) A (call (.type "enumerate") [.ref l]) Q E s:=
 callType_new F.called_enumerate (by decide) (F.typeCall_enumerate_1 _) (F.newCall_enumerate_1 _) (λobj=>F.args_object_init_2 obj _) F.entry_enumerate_new (D8 l its n dct sl) ⟨hl,E2 h⟩
def Fk{t:Addr}{its:Array Value}{x:Value}{Q:Value->Shared->Prop}(hit:s.heap.IsTupleIter it t i)(ht:s.heap.IsTuple t its)(hx:its[i]?=some x)(hQ:∀h',h'.IsTupleIter it t (i+1)->Heap.SameBut it s.heap h'->Q x { s with heap:=h' }):wpAny (model prog w) A (Builtin.SmallTypes.nextOf (.ref it)) Q E s:=by
 obtain⟨ob,h1,h2,h3⟩:=id hit;obtain⟨ot,k1,_,m,k2⟩:=ht;unfold Builtin.SmallTypes.nextOf;refine wpAny_bind (wpAny_callSpecial?_slot (name:=Str.ofString "__next__") hit.typeIs F.slot_tuple_iterator_next (wpAny_call_entry F.slot_tuple_iterator_next hit.typeIs F.entry_tuple_iterator_next ?_ (F.args_tuple_iterator_next_1 _)));refine wpAny_bind (m:=field (.ref it) 0) (wpAny_field h1 h3 (x:=.ref t) rfl ?_);show wpAny _ _ (if (Value.ref t==Value.none)=true then _ else _) _ _ s;rw[if_neg (by exact Bool.false_ne_true)];refine wpAny_bind (m:=field (.ref it) 1) (wpAny_field h1 h3 (x:=.int i 0) rfl (wpAny_bind (m:=seqItems? (.ref t)) (wpAny_seqItems k1 k2 ?_)));simp only[Int.toNat_natCast,hx];refine wpAny_bind (wpAny_setField h1 h3 (by simp) (wpAny_pure ⟨x,rfl,wpAny_pure (hQ _ ⟨_,Heap.get?_update_self _ h1 (Obj.isFreed_of_fields (Obj.data_mapFields h3 _)),(Obj.cls_mapFields ..).trans h2,?_⟩ (Heap.SameBut.update ..))⟩));rw[Obj.data_mapFields h3];simp[rawInt]
def Dv{t:Addr}{its:Array Value}{Q:Value->Shared->Prop}(hh:A.handled=none)(hit:s.heap.IsTupleIter it t i)(ht:s.heap.IsTuple t its)(hx:its[i]?=none)(hE:∀h' e,Heap.ExtBut it s.heap h'->(∃o,h'.get? e=some o/\o.cls=.type "StopIteration")->E (.ref e) { s with heap:=h' }):wpAny (model prog w) A (Builtin.SmallTypes.nextOf (.ref it)) Q E s:=by
 obtain⟨ob,h1,h2,h3⟩:=id hit;obtain⟨ot,k1,_,m,k2⟩:=ht;unfold Builtin.SmallTypes.nextOf;refine wpAny_bind (wpAny_callSpecial?_slot (name:=Str.ofString "__next__") hit.typeIs F.slot_tuple_iterator_next (wpAny_call_entry F.slot_tuple_iterator_next hit.typeIs F.entry_tuple_iterator_next ?_ (F.args_tuple_iterator_next_1 _)));refine wpAny_bind (m:=field (.ref it) 0) (wpAny_field h1 h3 (x:=.ref t) rfl ?_);show wpAny _ _ (if (Value.ref t==Value.none)=true then _ else _) _ _ s;rw[if_neg (by exact Bool.false_ne_true)];refine wpAny_bind (m:=field (.ref it) 1) (wpAny_field h1 h3 (x:=.int i 0) rfl (wpAny_bind (m:=seqItems? (.ref t)) (wpAny_seqItems k1 k2 ?_)));simp only[Int.toNat_natCast,hx];refine wpAny_bind (wpAny_rule (wpAny_bind (wpAny_setField h1 h3 (by simp) (wpAny_bind (m:=newExc (.type "StopIteration") []) ?_))));simp only[newExc,newTuple];refine wpAny_bind (wpAny_newObj_type (wpAny_bind (m:=firstArgMember _ _) (wpAny_of_eq (a:=Value.none) (by first|rfl|(simp only[firstArgMember];rfl)) (wpAny_newObj_type ?_ (by size_fits)))) (by size_fits));simp only[raiseNew];refine wpAny_bind (wpAny_handled ?_)
 first|rw[show A.in1.handled=none from hh]|rw[hh]
 exact wpAny_bind (wpAny_pure (wpAny_throw (hE _ _ (((Heap.SameBut.update ..).extBut.push _).push _) ⟨_,Heap.get?_push_size _ rfl,rfl⟩)))
end
def Ij{prog:Program}{w:World}{A:Around}(hh:A.handled=none)(it l:Addr)(hne:l≠it)(its:Array Value)(c:Nat):
  Draws prog w A it [it,l] (c+its.size) (λi v=>∃k,i=c+k/\its[k]?=some v) (λi h=>∃k,i=c+k/\h.IsTupleIter it l k/\h.IsTuple l its) where
 live:=λ_ _ ⟨_,_,st,_⟩=>let⟨o,ho,_⟩:=st;⟨o,ho⟩
 frame:=λ_ _ _ ⟨k,e,st,t⟩ hk=>⟨k,e,st.at λo e=>hk it (by simp) o e,let⟨o,ho,r⟩:=t;⟨o,hk l (by simp) o ho,r⟩⟩
 item:=λi s Q E hi ⟨k,e,st,t⟩ hQ=>by
  have hk:k<its.size:=by omega
  refine Fk st t (x:=its[k]) (by simp[hk]) λh' st' sb=>hQ _ h' s.toks ⟨k,e,by simp[hk]⟩ ⟨k+1,by omega,st',?_⟩ sb;obtain⟨o,ho,r⟩:=t;exact⟨o,(sb.2 l hne).trans ho,r⟩
 done:=λs Q E ⟨k,e,st,t⟩ hE=>Dv hh st t (Array.getElem?_eq_none (by omega)) hE
def Hw{prog:Program}{w:World}{A:Around}(hh:A.handled=none)(it l:Addr)(hne:l≠it)(its:Array Value)(c:Nat):
  Draws prog w A it [it,l] (c+its.size) (λi v=>∃k,i=c+k/\its[k]?=some v) (λi h=>∃k,i=c+k/\h.IsListIter it l k/\h.IsList l its) where
 live:=λ_ _ ⟨_,_,st,_⟩=>let⟨o,ho,_⟩:=st;⟨o,ho⟩
 frame:=λ_ _ _ ⟨k,e,st,t⟩ hk=>⟨k,e,st.at λo e=>hk it (by simp) o e,t.at λo e=>hk l (by simp) o e⟩
 item:=λi s Q E hi ⟨k,e,st,t⟩ hQ=>by
  have hk:k<its.size:=by omega
  exact wpAny_nextOf_list_item st t (x:=its[k]) (by simp[hk]) λh' st' sb=>hQ _ h' s.toks ⟨k,e,by simp[hk]⟩ ⟨k+1,by omega,st',t.extBut sb.extBut hne⟩ sb
 done:=λs Q E ⟨k,e,st,t⟩ hE=>wpAny_nextOf_list_end hh st t (Array.getElem?_eq_none (by omega)) hE
def Inv.turned2{σ:List (Option V)}{t':Nat}{e:Addr}(I:Inv X pins σ H s)(k:∀b o,b≠it->b≠e->s.heap.get? b=some o->h'.get? b=some o)(f1:lN X pins H it)(f2:lN X pins H e):
  Inv X pins σ H { s with heap:=h',toks:=t' }:=by
 obtain⟨a0,a1,a2,a3,a4,a5⟩:=f1;obtain⟨b0,b1,b2,b3,b4,b5⟩:=f2;have n1:∀b u,H b=some u->b≠it:=λb u q z=>by rw[z,a0]at q;cases q
 have n2:∀b u,H b=some u->b≠e:=λb u q z=>by rw[z,b0]at q;cases q
 have kk:∀b o,b∉[it,e]->s.heap.get? b=some o->h'.get? b=some o:=λb o hb q=>k b o (λz=>hb (by simp[z])) (λz=>hb (by simp[z])) q;refine I.step (g':=s.gens) (d':=s.drawn) (ch:=[it,e]) (λb hb=>?_) (λb o _ _ hc q _=>kk b o hc q) (λb o _ _ hc q _=>⟨o.slots,kk b o hc q⟩) (λ_ _ _ _ n=>n) (λb o hc q=>⟨o,kk b o hc q⟩) (λ_ _ q=>q) (λ_ _ _ q=>q) (λb ps q=>⟨#[],by rw[q];simp⟩) (λm hm=>?_) (λb u q=>?_) I.bare
 ·simp only[List.mem_cons,List.mem_nil_iff,or_false]at hb;rcases hb with rfl|rfl;·exact⟨a3,a1,a4,a5⟩
  ·exact⟨b3,b1,b4,b5⟩
 ·obtain⟨o,es,ep,ho,r⟩:=hm;exact⟨o,es,ep,k _ o (Ne.symm a1) (Ne.symm b1) ho,r⟩
 ·refine(I.hok b u q).stay (λc v hc q'=>k c v ?_ ?_ q') (λ_ q'=>q') λ_ _ q'=>q'
  ·rcases hc with z|z;·rw[z];exact n1 b u q
   ·exact n1 c _ z
  ·rcases hc with z|z;·rw[z];exact n2 b u q
   ·exact n2 c _ z
noncomputable def Ite(sq:Hp->List V->Prop)(c:Nat):It:=⟨λi H=>∃xs x,sq H xs/\xs[i]?=some x,
 λi H v H'=>∃p x,v=.ref p/\H p=none/\H'=upd H p (.tup [.int ((c+i:Nat):Int),x])/\∀xs,sq H xs->xs[i]?=some x,λi H=>∃xs,sq H xs/\xs.length<=i⟩
section
variable{w:World}{K:PySem.W.Frag}{tp:Pos}
structure Inner(P:Program)(w:World)(K:PySem.W.Frag)(sq:Hp->List V->Prop)(a it:Addr)(iter:Nat->Heap->Prop):Prop where
 obj:∀i h,iter i h->∃o,h.get? it=some o/\∀v,o.data≠.cell v
 at_:∀i h h',iter i h->(∀o,h.get? it=some o->h'.get? it=some o)->iter i h'
 inj:∀(X:Cx),X.K=K->∀(pins:List (Addr×Obj))(σ:St)(H:Hp)(s:Shared) xs ys,Inv X pins σ H s->sq H xs->sq H ys->xs=ys
 dr:∀(X:Cx),X.prog=P->X.w=w->X.K=K->X.calm=true->∀(pins:List (Addr×Obj))(σ:St)(H:Hp)(s:Shared)(xs:List V)(c:Nat),Inv X pins σ H s->sq H xs->(∀i,iter i s.heap->a≠it)->
  ∃its:List Value,Vals xs its/\xs.length<=sizeLine/\∃(Pd:Nat->Value->Prop)(St:Nat->Heap->Prop),Draws P w X.A.in1 it [it,a] (c+its.length) Pd St/\(∀k v,Pd (c+k) v->its[k]?=some v)/\
   (∀k h,iter k h->(∀o,s.heap.get? a=some o->h.get? a=some o)->a≠it->St (c+k) h)/\∀k h,St (c+k) h->iter k h
 fin:∀(X:Cx),X.prog=P->X.w=w->X.K=K->X.calm=true->∀(pins:List (Addr×Obj))(σ:St)(H:Hp)(s:Shared)(xs:List V)(i:Nat)(Q:Value->Shared->Prop)(E:Value->Shared->Prop),Inv X pins σ H s->sq H xs->xs.length<=i->iter i s.heap->
  (∀h' x,Heap.ExtBut it s.heap h'->(∃o,h'.get? x=some o/\o.cls=.type "StopIteration")->E (.ref x) { s with heap:=h' })->wpAny (model P w) X.A.in1 (Builtin.SmallTypes.nextOf (.ref it)) Q E s
def zM{ob:Obj}(hb:b<h.objs.size)(q:(h.push ob).get? b=some o):h.get? b=some o:=by unfold Heap.get? Heap.push at *;simpa[Array.getElem?_push,Nat.ne_of_lt hb]using q
def Js{prog:Program}{A:Around}{e:Addr}{c:Int}{old:Value}{Q:Option Value->Shared->Prop}(he:IsEnum s.heap e it c old)(hn:∀(Q':Value->Shared->Prop)(E':Value->Shared->Prop),(∀h' x,Heap.ExtBut it s.heap h'->(∃o,h'.get? x=some o/\o.cls=.type "StopIteration")->E' (.ref x) { s with heap:=h' })->wpAny (model prog w) A.in1 (Builtin.SmallTypes.nextOf (.ref it)) Q' E' s)(hQ:∀h',Heap.ExtBut it s.heap h'->Q none { s with heap:=h' }):wpAny (model prog w) A (pyNext (.ref e)) Q E s:=by
 have ht:s.TypeIs (.ref e) "enumerate":=⟨_,he,rfl⟩
 unfold pyNext;refine wpAny_bind (wpAny_attempt (wpAny_callSpecial?_slot (name:=Str.ofString "__next__") ht F.slot_enumerate_next (wpAny_call_entry F.slot_enumerate_next ht F.entry_enumerate_next ?_ (F.args_enumerate_next_1 _))));refine wpAny_bind (m:=field (.ref e) 2) (wpAny_field he rfl (x:=.ref it) rfl (wpAny_bind (hn _ _ λh' x hb hx=>?_)));obtain⟨o,ho,hc⟩:=hx;exact wpAny_bind (wpAny_isInstance (T:="StopIteration") (b:=true) ⟨o,ho,hc⟩ isSubtype_stop (wpAny_pure (hQ _ hb)))
def xW{e:Addr}{iter:Nat->Heap->Prop}(N:Inner P w K sq a it iter)(c:Nat)(hei:e≠it)(hea:e≠a)(hai:a≠it):
  Turn P w K (.Tuple elts kt tp) (Ite sq c) [e,it] e (λi h=>(∃old,IsEnum h e it ((c+i:Nat):Int) old)/\iter i h) where
 mem:=by simp
 obj:=λi h st b hb=>by
  simp only[List.mem_cons,List.mem_nil_iff,or_false]at hb;rcases hb with rfl|rfl
  ·obtain⟨old,q⟩:=st.1;exact⟨_,q,λv z=>by cases z⟩
  ·exact N.obj i h st.2
 keep:=λi h h' st k=>⟨st.1.imp λold q=>k e (by simp) _ q,N.at_ i h h' st.2 λo q=>k it (by simp) o q⟩
 item:=by
  intro X hP hw hK hc i pins s σ H E I hf st hg;obtain⟨xs,x,hq,hx⟩:=hg;obtain⟨⟨old,he⟩,hi⟩:=st;obtain⟨its,rv,hz,Pd,St,Dr,p1,p2,p3⟩:=N.dr X hP hw hK hc pins σ H s xs c I hq λ_ _=>hai;obtain⟨u,hu,ru⟩:=rv.get hx;have hil:i<its.length:=(List.getElem?_eq_some_iff.mp hu).1;have fe:=hf e (by simp);have fi:=hf it (by simp);subst hP hw;refine wpAny_pyNext_enum_itemD Dr he (p2 i _ hi (λ_ q=>q) hai) (by omega) hei (by simp only[List.mem_cons,List.mem_nil_iff,or_false,not_or];exact⟨hei,hea⟩) λy h1 tk hy ho hs1 ht hsz hk=>?_;have ey:y=u:=by have q:=p1 i y hy;rw[hu]at q;exact(Option.some.inj q).symm
  subst ey;refine⟨_,rfl,wpAny_letOwnedTupleGo_enum ho λh2 he2 sb=>?_⟩;have helt:e<s.heap.objs.size:=Heap.lt_size he;have hpe:s.heap.objs.size≠e:=Nat.ne_of_gt helt;obtain⟨oi,hoi,_⟩:=N.obj i _ hi;have hpi:s.heap.objs.size≠it:=Nat.ne_of_gt (Heap.lt_size hoi);have hp:H s.heap.objs.size=none:=I.hok.fresh (Nat.le_refl _);have Ia:Inv X pins σ (upd H s.heap.objs.size (.tup [.int ((c+i:Nat):Int),x])) { s with heap:=s.heap.push { cls:=.type "tuple",data:=.seq #[.int ((c+i:Nat):Int) tk,y] } }:=by refine I.laid (t':=s.toks) (λb o q=>Heap.get?_push_of_some _ q) (Nat.le_refl _) ?_;exact⟨by show 2<=sizeLine;decide,[.int ((c+i:Nat):Int) tk,y],.cons ⟨tk,rfl⟩ (.cons ru .nil),IsTup.new _ _⟩
  have fe':lN X pins (upd H s.heap.objs.size (.tup [.int ((c+i:Nat):Int),x])) e:=⟨by rw[aH (Ne.symm hpe)];exact fe.1,fe.2⟩
  have fi':lN X pins (upd H s.heap.objs.size (.tup [.int ((c+i:Nat):Int),x])) it:=⟨by rw[aH (Ne.symm hpi)];exact fi.1,fi.2⟩
  have ht2:h2.get? s.heap.objs.size=some { cls:=.type "tuple",data:=.seq #[.int ((c+i:Nat):Int) tk,y] }:=(sb.2 _ hpe).trans ht;have Ib:Inv X pins σ (upd H s.heap.objs.size (.tup [.int ((c+i:Nat):Int),x])) { s with heap:=h2,toks:=tk+1 }:=by
   refine Ia.turned2 (t':=tk+1) (λb o n1 n2 q=>?_) fi' fe';by_cases z:b=s.heap.objs.size;·subst z;have q':=Heap.get?_push_size s.heap (o:={ cls:=.type "tuple",data:=.seq #[.int ((c+i:Nat):Int) tk,y] }) rfl;have q:(s.heap.push { cls:=.type "tuple",data:=.seq #[.int ((c+i:Nat):Int) tk,y] }).get? s.heap.objs.size=some o:=q;rw[q']at q;rw[ht2];exact q
   ·have q:(s.heap.push { cls:=.type "tuple",data:=.seq #[.int ((c+i:Nat):Int) tk,y] }).get? b=some o:=q;have q2:s.heap.get? b=some o:=by
     rcases Nat.lt_or_ge b s.heap.objs.size with hb|hb;·exact zM hb q
     ·have hlt:b<(s.heap.push { cls:=.type "tuple",data:=.seq #[.int ((c+i:Nat):Int) tk,y] }).objs.size:=Heap.lt_size q;rw[Heap.size_push]at hlt;exact absurd (Nat.le_antisymm (Nat.le_of_lt_succ hlt) hb) z
    exact(sb.2 b n2).trans (hk b o n2 n1 q2)
  refine⟨.ref s.heap.objs.size,_,Ib,rfl,⟨_,x,rfl,hp,rfl,λys hy'=>by rw[N.inj X hK pins σ H s ys xs I hy' hq];exact hx⟩,⟨⟨y,by have q:=he2;rw[show((c+(i+1):Nat):Int)=((c+i:Nat):Int)+1 by omega];exact q⟩,?_⟩,λb hb=>?_⟩;·refine N.at_ (i+1) h1 h2 (p3 (i+1) h1 hs1) λo q=>(sb.2 it (Ne.symm hei)).trans q
  ·simp only[List.mem_cons,List.mem_nil_iff,or_false]at hb;rcases hb with rfl|rfl;·exact fe'.1
   ·exact fi'.1
 done:=by intro X hP hw hK hc i pins s σ H E I hf st hg;obtain⟨xs,hq,hx⟩:=hg;obtain⟨⟨old,he⟩,hi⟩:=st;have fi:=hf it (by simp);have fin:=N.fin X hP hw hK hc pins σ H s xs i;subst hP hw;exact Js he (λQ' E' hE=>fin Q' E' I hq hx hi hE) λh' hb=>⟨rfl,I.turned (t':=s.toks) (λb o n q=>hb b o n q) fi.1 fi.2.1 fi.2.2.2.1 fi.2.2.2.2.1 fi.2.2.2.2.2⟩
 self:=λA i s Q E st h=>by obtain⟨⟨old,he⟩,_⟩:=st;exact wpAny_pyIter_enum he h
def zX(a it:Addr):Inner P w K (λH xs=>SqT K H a xs) a it (λi h=>h.IsTupleIter it a i) where
 obj:=λi h st=>let⟨o,q,c,d⟩:=st;⟨o,q,λv z=>by rw[d]at z;cases z⟩
 at_:=λi h h' st k=>st.at k
 inj:=λX hK pins σ H s xs ys I h1 h2=>by subst hK;exact I.tuple_inj h1 h2
 dr:=λX hP hw hK hc pins σ H s xs c I hq hne=>by
  subst hP hw hK;obtain⟨its,rv,p,hz⟩:=I.tuple hq;have hh:X.A.in1.handled=none:=I.ok.hd hc;by_cases hai:a=it;·exact⟨its,rv,hz,λ_ _=>False,λ_ _=>False,⟨λ_ _ z=>z.elim,λ_ _ _ z _=>z,λ_ _ _ _ _ z _=>z.elim,λ_ _ _ z _=>z.elim⟩,λ_ _ z=>z.elim,λ_ _ _ _ z=>absurd hai z,λ_ _ z=>z.elim⟩
  ·have Dq:=Ij (prog:=X.prog) (w:=X.w) hh it a hai its.toArray c;rw[List.size_toArray]at Dq;refine⟨its,rv,hz,λi v=>∃k,i=c+k/\its.toArray[k]?=some v,λi h=>∃k,i=c+k/\h.IsTupleIter it a k/\h.IsTuple a its.toArray,Dq,λk v q=>?_,λk h st kp _=>⟨k,rfl,st,?_⟩,λk h q=>?_⟩
   ·obtain⟨k',e,q⟩:=q;have:k=k':=by omega
    subst this;simpa using q
   ·obtain⟨o,ho,r⟩:=p;exact⟨o,kp o ho,r⟩
   ·obtain⟨k',e,st,_⟩:=q;have:k=k':=by omega
    subst this;exact st
 fin:=λX hP hw hK hc pins σ H s xs i Q E I hq hx st hE=>by subst hP hw hK;obtain⟨its,rv,p,hz⟩:=I.tuple hq;have hl:=rv.length;exact Dv (I.ok.hd hc) st (show s.heap.IsTuple a its.toArray from p) (by simp;omega) hE
def qX(a it:Addr):Inner P w K (λH xs=>SqL K H a xs) a it (λi h=>h.IsListIter it a i) where
 obj:=λi h st=>let⟨o,q,c,d⟩:=st;⟨o,q,λv z=>by rw[d]at z;cases z⟩
 at_:=λi h h' st k=>st.at k
 inj:=λX hK pins σ H s xs ys I h1 h2=>by subst hK;exact I.list_inj h1 h2
 dr:=λX hP hw hK hc pins σ H s xs c I hq hne=>by
  subst hP hw hK;obtain⟨its,rv,p,hz⟩:=I.list hq;have hh:X.A.in1.handled=none:=I.ok.hd hc;by_cases hai:a=it;·exact⟨its,rv,hz,λ_ _=>False,λ_ _=>False,⟨λ_ _ z=>z.elim,λ_ _ _ z _=>z,λ_ _ _ _ _ z _=>z.elim,λ_ _ _ z _=>z.elim⟩,λ_ _ z=>z.elim,λ_ _ _ _ z=>absurd hai z,λ_ _ z=>z.elim⟩
  ·have Dq:=Hw (prog:=X.prog) (w:=X.w) hh it a hai its.toArray c;rw[List.size_toArray]at Dq;refine⟨its,rv,hz,λi v=>∃k,i=c+k/\its.toArray[k]?=some v,λi h=>∃k,i=c+k/\h.IsListIter it a k/\h.IsList a its.toArray,Dq,λk v q=>?_,λk h st kp _=>⟨k,rfl,st,?_⟩,λk h q=>?_⟩
   ·obtain⟨k',e,q⟩:=q;have:k=k':=by omega
    subst this;simpa using q
   ·obtain⟨o,ho,r⟩:=p.isList;exact⟨o,kp o ho,r⟩
   ·obtain⟨k',e,st,_⟩:=q;have:k=k':=by omega
    subst this;exact st
 fin:=λX hP hw hK hc pins σ H s xs i Q E I hq hx st hE=>by subst hP hw hK;obtain⟨its,rv,p,hz⟩:=I.list hq;have hl:=rv.length;exact wpAny_nextOf_list_end (I.ok.hd hc) st p.isList (by simp;omega) hE
end
end L2
namespace L2
open PySem PySem.Spec PyProof.Rows
noncomputable def cT(c:Nat)(xs:List D):List D:=(List.range xs.length).map λi=>.tup [.int ((c+i:Nat):Int),xs.getD i .non]
def sH{c:Nat}{xs:List D}(h:(cT c xs)[i]?=some d):∃x,xs[i]?=some x/\d=.tup [.int ((c+i:Nat):Int),x]:=by
 unfold cT at h;rw[List.getElem?_map]at h;by_cases hi:i<xs.length
 ·rw[List.getElem?_range hi]at h;refine⟨xs[i],List.getElem?_eq_getElem hi,?_⟩;have e:xs.getD i .non=xs[i]:=by rw[List.getD_eq_getElem?_getD,List.getElem?_eq_getElem hi];rfl
  rw[<- e];exact(Option.some.inj h).symm
 ·rw[List.getElem?_eq_none (by simp;omega)]at h;cases h
def mL(c:Nat)(xs:List D):(cT c xs).length=xs.length:=by simp[cT]
def ItOk.enum{K:PySem.W.Frag}{c:Nat}(hs:∀G1 H1,Same G G1->Same G1 H1->sq H1 vs)(r:Reps K G vs ds):ItOk K G (Ite sq c) (cT c ds):=by intro i G1 H1 s1 s2;refine⟨λd e=>?_,λhl=>⟨vs,hs G1 H1 s1 s2,by rw[mL]at hl;rw[r.length];exact hl⟩⟩;obtain⟨dx,ex,rfl⟩:=sH e;obtain⟨v,ev,rv⟩:=r.get ex;refine⟨⟨vs,v,hs G1 H1 s1 s2,ev⟩,λx H' y=>?_⟩;obtain⟨p,x',rfl,hp,rfl,y⟩:=y;have z:=y vs (hs G1 H1 s1 s2);rw[ev]at z;cases z;refine⟨upd G1 p (.tup [.int ((c+i:Nat):Int),v]),.new s2 hp,.tup (.of aS) (.cons (.int _) (.cons ((rv.mono s1).mono (.into (s2.free hp))) .nil))⟩
section
variable{tp:Pos}{Rr:It->Hp->Prop}
def pv{l:Addr}{iter:Nat->Heap->Prop}{c:Nat}(I:Inv X pins σ H s)(N:Inner X.prog X.w X.K sq l (s.heap.objs.size) iter)(hl:l<s.heap.objs.size)(he:IsEnum h' (s.heap.objs.size+1) s.heap.objs.size (c:Int) .none)(hi:iter 0 h')(hk:∀b o,s.heap.get? b=some o->h'.get? b=some o)(q:Rr (Ite sq c) H):PIE X pins σ (.Tuple elts kt tp) Rr (.ref (s.heap.objs.size+1)) { s with heap:=h' }:=by
 have hlt:s.heap.objs.size<=s.heap.objs.size+1:=Nat.le_succ _;refine⟨_,_,_,_,H,rfl,I.kept (t':=s.toks) hk,xW N c (Nat.ne_of_gt (Nat.lt_succ_self _)) (Nat.ne_of_gt (Nat.lt_succ_of_lt hl)) (Nat.ne_of_lt hl),⟨⟨_,he⟩,hi⟩,λb hb=>?_,q⟩;simp only[List.mem_cons,List.mem_nil_iff,or_false]at hb;rcases hb with rfl|rfl;·exact I.fpOk hlt (I.hok.fresh hlt)
 ·exact I.fpOk (Nat.le_refl _) (I.hok.fresh (Nat.le_refl _))
def SqT.lt'(I:Inv X pins σ H s)(h:SqT X.K H a xs):a<s.heap.objs.size:=by obtain⟨its,rv,⟨o,q,_⟩,_⟩:=I.tuple h;exact Heap.lt_size q
def SqL.lt'(I:Inv X pins σ H s)(h:SqL X.K H a xs):a<s.heap.objs.size:=by obtain⟨its,rv,p,_⟩:=I.list h;obtain⟨o,q,_⟩:=p.isList;exact Heap.lt_size q
end
noncomputable def vw:D->R (List D)
 |.lst _ xs=>.ok (cT 0 xs)
 |.tup xs=>.ok (cT 0 xs)
 |_=>.no
noncomputable def DZ:D->D->R (List D)
 |.tup xs,.int c=>if 0<=c/\c<1073741824 then .ok (cT c.toNat xs)else .no
 |_,_=>.no
section
variable{a b:Expr}{ga:Ev->R D}{p tp kp:Pos}
def zz(hg:Gl X "enumerate")(hm:X.mg "enumerate"=none)(ha:PF X a ga)(hs:starEach [a] X.env=(false,eval a X.env)::starEach [] X.env:=by rfl):
  PIF X (.Tuple elts kt tp) (.Call (.Name "enumerate" p) [a] [] pos) (aJ vw ga):=by
 intro pins s σ H Rr I h;obtain⟨G,ρ,st,h⟩:=h;have ta:zS (tF X ga) JS σ H (λvs H1=>∃v,vs=[v]/\∃G1 d,Up G H G1 H1/\Rep X.K G1 v d/\Same G1 H1/\(vw d).post (Fin G1 H1 (λG J items=>ItOk X.K G J items) Rr) (Exx X σ G1 H1)):=
  tG.intro st h λd v G1 H1 u1 st1 r1 h1=>⟨v,rfl,G1,d,u1,r1,st1.sub,h1⟩
 refine Call_ (jk I hg hm PyProof.Rows.Boot.«enumerate» (PyProof.Rows.callWith_type1 (thn ((du ha iy hs) pos pins s σ H _ I ta) λus s1 ⟨vs,H1,I1,r1,q1⟩=>?_) hs rfl));obtain⟨v,hv,G1,d,u1,rd,sub,h1⟩:∃v,vs=[v]/\∃G1 d,Up G H G1 H1/\Rep X.K G1 v d/\Same G1 H1/\(vw d).post (Fin G1 H1 (λG J items=>ItOk X.K G J items) Rr) (Exx X σ G1 H1):=q1;subst hv;obtain⟨u,rfl,rv⟩:=r1.one;cases rd with
 |lst hq t=>cases rv;have hq':SqL X.K G1 _ _:=.of hq;obtain⟨its,rvs,p,hz⟩:=I1.list (hq'.mono sub);exact call_enumerate_list p.isList λh' he hi hsz hk=>wpAny_pyIter_enum he (pv (c:=0) I1 (qX _ _) (SqL.lt' I1 (hq'.mono sub)) he hi hk (h1 _ G1 H1 (.refl sub) (ItOk.enum (λG2 H2 s1 s2=>(hq'.mono s1).mono s2) t)))
 |fls hq t=>cases rv;obtain⟨its,rvs,p,hz⟩:=I1.list (hq.mono sub);exact call_enumerate_list p.isList λh' he hi hsz hk=>wpAny_pyIter_enum he (pv (c:=0) I1 (qX _ _) (SqL.lt' I1 (hq.mono sub)) he hi hk (h1 _ G1 H1 (.refl sub) (ItOk.enum (λG2 H2 s1 s2=>(hq.mono s1).mono s2) t)))
 |tup hq t=>cases rv;obtain⟨its,rvs,⟨⟨cls,dd,data,sl⟩,ho,hc,n,hd⟩,hz⟩:=I1.tuple (hq.mono sub);simp only at hc hd;subst hc hd;exact A2 ho λh' he hi hsz hk=>wpAny_pyIter_enum he (pv (c:=0) I1 (zX _ _) (SqT.lt' I1 (hq.mono sub)) he ⟨_,hi,rfl,rfl⟩ hk (h1 _ G1 H1 (.refl sub) (ItOk.enum (λG2 H2 s1 s2=>(hq.mono s1).mono s2) t)))
 |_=>exact h1.elim
noncomputable def H8(ga gb:Ev->R D):Ev->R (List D):=λρ=>ga ρ>>=λx=>gb ρ>>=λc=>DZ x c
end
def rH:∀(is:List Nat)(ds:List D)(ρ ρ':Ev),qx is ds ρ=.ok ρ'->(NoOwn ρ)->NoOwn ρ'
 | [],[],ρ,ρ',e,h=>by cases e;exact h
 | [],_::_,_,_,e,_=>by cases e
 |_::_,[],_,_,e,_=>by cases e
 |i::is,d::ds,ρ,ρ',e,h=>rH is ds _ ρ' e (qt (i:=i) d ρ _ rfl h)
def Cn:∀d ρ ρ',xK is d ρ=.ok ρ'->(NoOwn ρ)->NoOwn ρ':=λd ρ ρ' e h=>by
 cases d with
 |tup ds=>exact rH is ds ρ ρ' e h
 |_=>cases e
def Bh{n:Nat}(hk:scope.kind=.function:=by rfl)(h1:(∀y∈scope.names,y.2≠.cell)/\(∀y∈scope.names,y.2=.local->scope.names.lookup y.1=some .local)/\(∀y∈scope.names,y.2=.free->y.1∈N'.drop n)/\n<=N'.length/\
 ∀y∈N'.drop n,scope.names.lookup y=some .free/\(y,NameKind.free)∈scope.names:=by decide +kernel)(h2:(N'.drop n).map X.env.kindOf=(N'.drop n).map λ_=>some NameKind.cell:=by rfl)(h3:N'.drop n=ix.map (λ(i:Nat)=>X.N.getD i Str.empty):=by rfl)(h4:ix.all (λi=>decide (i<X.N.length))=true:=by rfl):CompOkT X scope n N' ix:=by
 obtain⟨a,b,d,f,g⟩:=h1;refine⟨hk,a,b,λy hy h=>?_,f,h3,λi hi=>?_,g⟩;·exact List.map_inj_left.1 h2 _ (d y hy h)
 ·exact of_decide_eq_true (List.all_eq_true.1 h4 i hi)
section
variable{elt:Expr}{ifs:List Expr}{n:Nat}{gt:Ev->R Bool}
def yJ(ok:CompOkT X scope n N' ix)(hcalm:X.calm=true)(hg:∀C s₂ H₂ fp,PGF (bK X N' scope C s₂ H₂ fp) tgt asg)(hown:∀d ρ ρ',asg d ρ=.ok ρ'->(NoOwn ρ)->NoOwn ρ')(hi:PIF X tgt iter gi)(he:∀C s₂ H₂ fp,PF (bK X N' scope C s₂ H₂ fp) elt ge)(ht:∀C s₂ H₂ fp,PTs (bK X N' scope C s₂ H₂ fp) ifs gt)(hs:∀x,foldedSetIterable iter X.env x=pure x:=by intro _;rfl):PFL X (.ListComp elt [⟨tgt,iter,ifs,0⟩] scope pos) (kh n asg gi ix gt ge):=by
 intro pins s σ H Q I h;obtain⟨G,ρ,st,h⟩:=h;rw[eval_ListComp];refine wpAny_comprehension_free (use:=none) rfl hs (eN λy hy hy2=>I.ok.has y.1 (.inl (ok.fr y hy hy2))) ok.kind ok.names ?_;have t:tG X (λG J items=>ItOk X.K G J items) gi σ H (λJ H1=>∃G1 items,Up G H G1 H1/\StE X.K G1 H1 σ ρ/\ItOk X.K G1 J items/\(eA asg gt ge items (de n ix ρ)>>=λds=>if ds.length<=sizeLine then R.ok ds else .no).post (tR X.K G H Q) (Exx X σ G H)):=by
  refine⟨G,ρ,st,?_⟩;unfold kh at h;cases e:gi ρ with
  |ok items=>rw[e]at h;exact λJ G1 H1 u r=>⟨G1,items,u,st.up u,r,h⟩
  |ex C=>rw[e]at h;exact h
  |no=>rw[e]at h;exact h
 refine thn (hi pins s σ H _ I t) λv s1 h1=>thn h1 λitv s2 h2=>?_;obtain⟨it,fp,tn,J,H2,e,I2,T,st2,f2,G2,items,u2,sE2,iok,h2⟩:=h2;subst e;have h2':(eA asg gt ge items (de n ix ρ)>>=λds=>if ds.length<=sizeLine then R.ok ds else .no).post (tR X.K G2 H2 Q) (Exx X σ G2 H2):=
  h2.mono (λds q l vs G' H' u hl r=>q l vs G' H' (u2.trans u) hl r) λC q=>q.up u2;refine jF (iter:=iter) (pos:=pos) (RR:=λacc C=>compPost (model X.prog X.w) X.A X.xe none (EP X pins σ Q) acc C) ok hcalm hg hown he ht I2 T st2 f2 sE2 iok h2' ?_;intro Dd C s' m vs G' H' up hd hCD _ q hm hos hb hC hCl un hok;refine⟨m,hm,λh' hs'=>?_⟩;have I3:=I2.call' (H':=upd H' Dd (.lst vs)) (s':={ s' with heap:=h' }) (ch:=fp) hos (un.sameBut (λb o hbc e=>hs'.extBut b o hbc e) hCl) (hok.sameBut (λb o hbc e=>hs'.extBut b o hbc e) (by rw[aH hCD];exact hC)) hb λb hb'=>by
  obtain⟨f0,f1,f2',f3,f4,f5⟩:=f2 b hb';exact⟨f3,f1,f4,f5⟩
 exact⟨.ref Dd,_,I3,rfl,q⟩
end
noncomputable def Go:List D->Option D
 | [.lst _ ds]=>match qd ds with
  |some ns=>some (.int ns.sum)
  |none=>none
 | [.tup ds]=>match qd ds with
  |some ns=>some (.int ns.sum)
  |none=>none
 |_=>none
def Vals.ints:∀{ns:List Int}{its:List Value},Vals (ns.map V.int) its->IntsAre its ns
 | [],_,.nil=>.nil
 |n::ns,_,.cons r t=>by obtain⟨tk,rfl⟩:=r;exact .cons n tk (Vals.ints t)
section
def sI{ns:List Int}(rv:Vals (ns.map V.int) its):∃xs:Array (Int×Tok),its.toArray=intItems xs/\preSum (numAt xs) xs.size=ns.sum:=by
 have hi:=Vals.ints rv;obtain⟨xs,hx⟩:=hi.allInts.items;have e1:ns=xs.toList.map (·.1):=by rw[<- nums_intItems,<- hx];exact(show numsOf its.toArray.toList=ns from hi.numsOf).symm
 exact⟨xs,hx,by rw[preSum_eq,List.take_of_length_le (by simp),e1]⟩
def zO(hc:X.calm=true):kI X (.builtin "sum") (λxs H Q=>∃p,∃ns:List Int,xs=[.ref p]/\(SqL X.K H p (ns.map V.int)\/SqT X.K H p (ns.map V.int))/\Q (.int ns.sum) H):=by
 intro pins s σ H xs us Q I r ⟨p,ns,ex,hs,q⟩;subst ex;obtain⟨u,rfl,r1⟩:=r.one;cases r1;rcases hs with hs|hs
 ·obtain⟨its,rv,pl,hz⟩:=I.list hs;obtain⟨xs,hx,e2⟩:=sI rv;refine sum_intListG (I.ok.hd hc) (hx▸pl.isList) λh' tk t' hk=>?_;rw[e2];exact⟨.int _,H,I.kept (t':=tk) hk,⟨_,rfl⟩,q⟩
 ·obtain⟨its,rv,pl,hz⟩:=I.tuple hs;obtain⟨xs,hx,e2⟩:=sI rv;have ht:s.heap.IsTuple p its.toArray:=pl;refine PySem.W.ktm_sumG (I.ok.hd hc) (hx▸ht) λh' tk t' hk=>?_;rw[e2];exact⟨.int _,H,I.kept (t':=tk) hk,⟨_,rfl⟩,q⟩
def EX(K:PySem.W.Frag):G8 K (λxs H Q=>∃p,∃ns:List Int,xs=[.ref p]/\(SqL K H p (ns.map V.int)\/SqT K H p (ns.map V.int))/\Q (.int ns.sum) H) Go:=by
 intro G H xs ds d Q s r e q;unfold Go at e;split at e
 ·split at e;·rename_i ns hn;cases e;obtain⟨v,rfl,r1⟩:=r.one;obtain⟨a,vs,rfl,hs,rr⟩:=r1.seq_inv;obtain rfl:=rr.nums hn;exact⟨a,ns,rfl,.inl (hs.mono s),q _ G H (.refl s) (.int _)⟩
  ·cases e
 ·split at e;·rename_i ns hn;cases e;obtain⟨v,rfl,r1⟩:=r.one;obtain⟨a,vs,rfl,hs,rr⟩:=r1.tup_inv;obtain rfl:=rr.nums hn;exact⟨a,ns,rfl,.inr (hs.mono s),q _ G H (.refl s) (.int _)⟩
  ·cases e
 ·cases e
def Kd{e:Expr}{p:Pos}(hc:X.calm=true)(hg:Gl X "sum")(hm:X.mg "sum"=none)(ha:PFA X [e] gl)(he:starEach [e] X.env=(false,eval e X.env)::starEach [] X.env:=by rfl):
  PF X (.Call (.Name "sum" p) [e] [] pos) (gOf Go gl):=lD (zO hc) (EX _) hg hm PyProof.Rows.Boot.«sum» ha (by decide) (by decide) he rfl
end
noncomputable def KW(i j:Nat)(ga:Ev->R D)(gl:Ev->R (List D)):Ev->O:=λρ=>(ga ρ).out ρ λd=>(gl ρ).out ρ λds=>.nx ((ρ.set i (some (.val d))).set j (some (.own ds)))
def Inv.turnedL{σ:List (Option V)}{t':Nat}(I:Inv X pins σ H s)(k:∀b o,b∉ch->s.heap.get? b=some o->h'.get? b=some o)(f:∀b∈ch,lN X pins H b):
  Inv X pins σ H { s with heap:=h',toks:=t' }:=by
 have n1:∀b u,H b=some u->b∉ch:=λb u q z=>by rw[(f b z).1]at q;cases q
 refine I.step (g':=s.gens) (d':=s.drawn) (ch:=ch) (λb hb=>?_) (λb o _ _ hc q _=>k b o hc q) (λb o _ _ hc q _=>⟨o.slots,k b o hc q⟩) (λ_ _ _ _ n=>n) (λb o hc q=>⟨o,k b o hc q⟩) (λ_ _ q=>q) (λ_ _ _ q=>q) (λb ps q=>⟨#[],by rw[q];simp⟩) (λm hm=>?_) (λb u q=>?_) I.bare;·obtain⟨a0,a1,a2,a3,a4,a5⟩:=f b hb;exact⟨a3,a1,a4,a5⟩
 ·obtain⟨o,es,ep,ho,r⟩:=hm;exact⟨o,es,ep,k _ o (λz=>(f _ z).2.1 rfl) ho,r⟩
 ·refine(I.hok b u q).stay (λc v hc q'=>k c v ?_ q') (λ_ q'=>q') λ_ _ q'=>q';rcases hc with z|z;·rw[z];exact n1 b u q
  ·exact n1 c _ z
noncomputable def JV:D->D->R D
 |.str x,.int k=>if k = -1 then .ok (.str x.reverse)else .no
 |.lst _ xs,.int k=>if k = -1 then .ok (.lst false xs.reverse)else .no
 |_,_=>.no
noncomputable def MN(ga gs:Ev->R D):Ev->R D:=λρ=>ga ρ>>=λx=>gs ρ>>=λk=>JV x k
section
variable{a st:Expr}{ga gs:Ev->R D}{p2:Pos}
noncomputable def HZ:List D->Option D
 | [.bl b]=>some (.int (if b=true then 1 else 0))
 |_=>none
end
noncomputable def wC(gt:Ev->R Bool)(g:Ev->O):Nat->Ev->O
 | 0,_=>.no
 |n+1,ρ=>(gt ρ).out ρ λk=>if k=true then (match g ρ with
  |.nx ρ2=>wC gt g n ρ2
  |.ct ρ2=>wC gt g n ρ2
  |.bk ρ2=>.nx ρ2
  |.rt d=>.rt d
  |.re d ρ2=>.re d ρ2
  |.ex C ρ2=>.ex C ρ2
  |.no=>.no)else .nx ρ
noncomputable def GK(n:Nat)(gt:Ev->R Bool)(g:Ev->O):Ev->O:=λρ=>wC gt g n ρ
noncomputable def zQ(gs:List (Ev->R D))(ρ:Ev):D->R D
 |.int i=>if 0<=i then (match gs[i.toNat]? with
  |some g=>g ρ
  |none=>.no)else .no
 |_=>.no
noncomputable def KO(gs:List (Ev->R D))(gi:Ev->R D):Ev->R D:=λρ=>gi ρ>>=zQ gs ρ
def Iy{gi:Ev->R D}:KO gs gi ρ=gi ρ>>=zQ gs ρ:=rfl
def HM{g:Ev->R D}:zQ (g::gs) ρ (.int 0)=g ρ:=rfl
def GX{f g:Ev->R D}:zQ (f::g::gs) ρ (.int 1)=g ρ:=rfl
noncomputable def inD(x:D):List D->Option Bool
 | []=>some false
 |y::ys=>(eqD 40 y x).bind λk=>if k=true then some true else inD x ys
noncomputable def inF:D->D->Option D
 |x,.lst _ ys=>if inD x ys=some false then some (.bl false)else none
 |_,_=>none
section
variable{a b:Expr}{ga:Ev->R D}
def CW{z:Str}{l:List Nat}{t:Tok}(hg:Gl X x)(hm:X.mg x=some (.str z t))(hl:z.cps.toList=l:=by rfl)(hz:l.length<=1000:=by decide)(hd:(x==("__debug__":Str))=false:=by decide):PF X (.Name x pos) (λ_=>.ok (.str l)):=
 iU (pw (v:=.str z) hg hm ⟨t,rfl⟩ hd) λ_ _=>.strL hl (Nat.le_trans hz (by decide))
structure KTup(K:PySem.W.Frag)(c:Addr)(ls:List (List Nat)):Prop where
 ex:∃(o:Obj)(its:Array Value)(n:Nat)(vs:List V),K.lookup c=some o/\o.cls=.type "tuple"/\o.data=.seq its n/\its.size<=sizeLine/\Vals vs its.toList/\∀G,Reps K G vs (ls.map .str)
end
noncomputable def Ng(n:Nat):List Nat:=(Nat.toDigits 10 n).map Char.toNat
section
variable{a b c e e1 e2 e3 e4 e5:Expr}{ga gc g1 g2' g3' g4 g5:Ev->R D}{p:Pos}
noncomputable def MJ:D->R D
 |.int i=>if 0<=i/\i<10000000000 then .ok (.str (Ng i.toNat))else .no
 |.str x=>.ok (.str x)
 |_=>.no
noncomputable def uc:List (Ev->R D)->List Nat->Ev->R D
 | [],out=>λ_=>.ok (.str out)
 |g::gs,out=>λρ=>g ρ>>=λd=>match d with
  |.str x=>if (out++x).length<=sizeLine then uc gs (out++x) ρ else .no
  |_=>.no
noncomputable def LH(gs:List (Ev->R D)):Ev->R D:=uc gs []
end
noncomputable def KA(j i:Nat)(gl:Ev->R (List D)):Ev->O:=λρ=>(fw (gl (frz j ρ))).out ρ λds=>if ds.all (fl 10)=true then .nx (ρ.set i (some (.own ds)))else .no
section
variable{prog:Program}{w:World}{A:Around}
structure Z3(z TI TO i1 i2 i3 l1 l2 l3:Addr):Prop where
 nd:[z,TI,TO,i1,i2,i3].Nodup
 ap:∀l∈[l1,l2,l3],l∉[z,TO,i1,i2,i3]
end
noncomputable def we(asg:D->Ev->R Ev)(gt:Ev->R Bool)(ge:Ev->R D):List D->Ev->R (List D)
 | [],_=>.ok []
 |d::ds,ρ=>fw (asg d ρ)>>=λρ1=>fw (gt ρ1)>>=λk=>if k=true then ge ρ1>>=λx=>we asg gt ge ds ρ1>>=λxs=>.ok (x::xs)else we asg gt ge ds ρ1
noncomputable def HI(gi:Ev->R (List D))(ix:List Nat)(gt:Ev->R Bool)(ge:Ev->R D):Ev->R (List D):=λρ=>gi ρ>>=λitems=>if items.length<=sizeLine then we (lI 0) gt ge items (gR ix ρ)else .no
section
variable{a b c e ix:Expr}{ga gi:Ev->R D}{p p1 p2 p3 pl sp:Pos}
noncomputable def HS(c:Nat):List Nat->Option (List Nat×List Nat)
 | []=>none
 |d::r=>if d=c then some ([],r)else (HS c r).map λp=>(d::p.1,p.2)
noncomputable def D6(c:Nat)(x:List Nat):List Nat×List Nat×List Nat:=match HS c x with
 |some (p,q)=>(p,[c],q)
 |none=>(x,[],[])
noncomputable def KY:D->List D->Option D
 |.str x,[.str [c]]=>if x.length<=10000 then some (.tup [.str (D6 c x).1,.str (D6 c x).2.1,.str (D6 c x).2.2])else none
 |_,_=>none
def Ix{f g h:Ev->R D}:zQ (f::g::h::gs) ρ (.int 2)=h ρ:=rfl
end
noncomputable abbrev qY(P:Program)(w:World)(K:PySem.W.Frag)(mg:Str->Option Value)(base:Heap)(N:List Str)(qual:Str)(scope:Scope)(cl:List (Str×Addr))(f:Addr)(cd:Value)(A:Around)(outer:List Env)(s:Shared)(H:Hp)(E:XK):Cx:=
 gCx P w K mg base N (PySem.W.envX qual scope s.heap.objs.size f cd cl) (λ_=>false) A outer s H E
structure ClOk(N:List Str)(scope:Scope)(cl:List (Str×Addr))(σ:St)(H:Hp)(h:Heap):Prop where
 kind:scope.kind=.function
 nocell:∀y∈scope.names,y.2≠.cell
 inj:∀y z c,cl.lookup y=some c->cl.lookup z=some c->y=z
 has:∀y,scope.names.lookup y=some .free->∃c,cl.lookup y=some c
 cell:∀y c,cl.lookup y=some c->H c=none/\∃v,h.IsCell c v
 val:∀(i:Nat) y v,N[i]?=some y->σ[i]?=some (some v)->∃u c,RelV v u/\scope.names.lookup y=some .free/\cl.lookup y=some c/\h.IsCell c (some u)
 len:σ.length=N.length
def xM{a b c cv:Value}:∀{l:List Value},TriplesOk l->codeAmong pos (l++[a,b,c])=some cv->cv=c\/codeAmong pos l=some cv:=λ{l}=>by
 induction l using TriplesOk.induct with
 |case1=>
  intro _ h;left;rw[List.nil_append,codeAmong.eq_def]at h
  repeat' split at h
  all_goals simp_all[codeAmong]
 |case2 i t j u v r ih=>
  intro ht h;rw[TriplesOk.eq_2]at ht;simp only[List.cons_append]at h;rw[codeAmong.eq_1]at h⊢;split at h;·rename_i q;rw[if_pos q];exact .inr h
  ·rename_i q;rw[if_neg q];exact ih ht h
 |case3 x h1 h2=>intro ht;rw[TriplesOk.eq_3 x h1 h2]at ht;exact ht.elim
section
variable{params:Arguments}{body:Expr}{c P:Addr}{ps:Array Value}{Q:Value->Shared->Prop}
structure Lam(X:Cx)(pins:List (Addr×Obj))(σ:St)(H:Hp)(s:Shared)(params:Arguments)(body:Expr)(scope:Scope)(f:Addr)(cd ctv pm:Value)(H1:Hp)(s1:Shared):Prop where
 inv:Inv X pins σ H1 s1
 hh:Same H H1
 new:∀a,H a=none->H1 a=none\/s.heap.objs.size<=a
 free:H1 f=none
 fn:s1.heap.get? f=some { cls:=.type "function",data:=.func (PySem.W.kla_fn "<lambda>" (X.env.qual++"<lambda>") params body scope (sM X.env scope.names []) pm cd ctv) }
 codeH:∃c o vs t u,cd=.ref c/\H1 c=some (.frz o u)/\o.data=.fields vs/\vs[1]?=some (.str (X.env.qual++"<lambda>") t)
def CP(I:Inv X pins σ H s)(hdef:defaultsOf params X.env=([],[]))(hc:X.env.code=.ref c)(hcd:PySem.W.CodeHd s.heap c P)(hT:H P=some (.tbl ps))(hq:zg ps=X.env.qual++"<lambda>")(hbm:s.heap.BuiltinsAt X.mg P)(hfr:∀y∈scope.names,y.2=.free->X.env.kindOf y.1=some .cell)(hgP:mainGlobals≠P)(h:∀f cd ctv pm H1 s1,Lam X pins σ H s params body scope f cd ctv pm H1 s1->Q (.ref f) s1):
  wpAny (model X.prog X.w) X.A (eval (.Lambda params body scope pos) X.env) Q X.xe s:=by
 have clos:closureFor scope X.env=pure (sM X.env scope.names []):=eN λy hy hk=>I.ok.has y.1 (.inl (hfr y hy hk));have hns:s.heap.Ns mainGlobals X.mg:=by obtain⟨o,es,ep,e,r⟩:=I.ok.mod.glob;exact⟨o,es,ep,I.bk _ _ e,r⟩
 obtain⟨qs,hP,tr,co⟩:=I.hok P _ hT;have neP:∀{b:Addr},H b=none->b≠P:=λe z=>by rw[z,hT]at e;cases e
 refine PySem.W.kla_eval hdef ?_;cases q:codeAmong pos qs.toList with
 |some cv=>obtain⟨c',o',vs',t',e1,e2,e3,e4⟩:=co pos cv q;refine PySem.W.kla_makeFunctionHit clos I.ok.glob hns hc hcd hP tr q hbm λctv h' tk old sz=>?_;have old2:∀b o,s.heap.get? b=some o->∀ob,(h'.push ob).get? b=some o:=λb o e ob=>Heap.get?_push_of_some _ (old b o e);refine h _ cv ctv _ H _ ⟨I.kept (t':=tk) λb o e=>old2 b o e _,.refl _,λa e=>.inl e,I.hok.fresh sz,Heap.get?_push_size _ rfl,⟨c',o',vs',t',_,e1,e2,e3,?_⟩⟩;rw[<- hq];exact e4
 |none=>
  refine PySem.W.kla_makeFunction clos I.ok.glob hns hc hcd hP tr q hgP hbm λc' ctv h' tk ext lo hi cr tab=>?_;have fr:H c'=none:=I.hok.fresh lo;obtain⟨c2,oc,vs,t,z1,z2,z3,z4⟩:=cr;cases z1;have old:∀b o,b≠P->s.heap.get? b=some o->∀ob,(h'.push ob).get? b=some o:=λb o n e ob=>Heap.get?_push_of_some _ (ext b o n e);have neU:∀{b:Addr}{o:HO},H b=some o->upd H c' (.frz oc (.own P)) b=some o:=λe=>by rw[aH (aP e fr)];exact e
  have un:∀ob,Un (frs X.stack) [] H (upd H c' (.frz oc (.own P))) s.heap (h'.push ob):=λob=>by
   refine⟨λb o e n _ _=>old b o (neP n) e ob,λb o e n _ _=>⟨o.slots,old b o (neP n) e ob⟩,λb o e n _=>?_,λb o e _=>?_,λb xs e=>neU e,λb o u e=>neU e,λb ps e=>⟨#[],by rw[neU e];simp⟩⟩;·rw[aH (λz=>by have:=Heap.lt_size e;rw[z]at this;exact absurd this (Nat.not_lt.mpr lo))];exact n
   ·by_cases z:b=P;·rw[z];exact⟨_,Heap.get?_push_of_some _ tab⟩
    ·exact⟨o,old b o z e ob⟩
  have hok:∀ob,HOk X.prog X.w (upd H c' (.frz oc (.own P))) (h'.push ob):=λob b o e=>by
   by_cases z:b=c';·subst z;rw[aS]at e;cases e;exact⟨Heap.get?_push_of_some _ z2,oc,Heap.get?_push_of_some _ z2⟩
   ·rw[aH z]at e;by_cases zP:b=P
    ·subst zP;rw[hT]at e;cases e;refine⟨_,Heap.get?_push_of_some _ tab,?_,λpos' cv q'=>?_⟩;·rw[Array.toList_append];exact TriplesOk_snoc _ _ _ _ tr
     ·rw[Array.toList_append]at q';rcases xM tr q' with y|y
      ·subst y;refine⟨c',oc,vs,t,rfl,aS,z3,?_⟩;rw[hq];exact z4
      ·obtain⟨c2,o3,vs3,t3,y1,y2,y3⟩:=co pos' cv y;exact⟨c2,o3,vs3,t3,y1,neU y2,y3⟩
    ·refine(I.hok b o e).stay (λb' u hb' q'=>old b' u (λz=>?_) q' ob) (λb' e'=>neU e') (λb' xs e'=>neU e') (λb' ob' u' e'=>neU e');rcases hb' with hb'|hb';·exact zP (hb'▸z)
     ·rw[z,hT]at hb';cases hb'
  refine h _ (.ref c') ctv _ (upd H c' (.frz oc (.own P))) _ ⟨I.call' (s':={ s with heap:=_,toks:=tk }) (ch:=[]) rfl (un _) (hok _) I.bare (λb z=>absurd z (by simp)),λb o e=>neU e,λa e=>?_,?_,Heap.get?_push_size _ rfl,⟨c',oc,vs,t,_,rfl,aS,z3,z4⟩⟩
  ·by_cases z:a=c';·exact .inr (z▸lo)
   ·exact .inl (by rw[aH z];exact e)
  ·rw[aH (Nat.ne_of_gt hi)];refine I.hok.fresh (Nat.le_trans lo (Nat.le_of_lt hi))
end
structure FnFH(P:Program)(w:World)(K:PySem.W.Frag)(mg:Str->Option Value)(base:Heap)(k:Nat)(f:Addr)(fd:FuncData)(ps:List Str)(g:List D->R D):Prop where
 run:∀(A:Around)(x:Addr)(outer:List Env)(s:Shared)(H:Hp)(args:Args)(us:List Value)(vs:List V)(Q:VK)(E:XK),Room k A->Env0 P w K mg base A outer s H->BindsTo s fd args (ps.zip us)->Vals vs us->(vs.length=ps.length/\spF K g vs H Q E)->
  codeAny (model P w) (A.mark (some (.ref x))) (.call (.ref f) args) (CR (CXo P w) outer P w H s Q E) s
structure CalleeH(P:Program)(w:World)(K:PySem.W.Frag)(mg:Str->Option Value)(base:Heap)(x:Str)(k n:Nat)(g:List D->R D):Prop where
 ex:∃f fd ps,FnFH P w K mg base k f fd ps g/\mg x=some (.ref f)/\PySem.W.keepIn K (.ref f)=true/\Binds K fd ps []/\ps.length=n
noncomputable def Ik(P:Program)(w:World)(K:PySem.W.Frag)(mg:Str->Option Value)(base:Heap)(k:Nat)(s1:Shared)(G1 H1:Hp)(f:Addr)(m:R D):Prop:=
 ∀(Y:Cx)(pins:List (Addr×Obj))(σY:St)(G2 H2:Hp)(s2:Shared)(fs:List Addr)(Q:VK),Y.prog=P->Y.w=w->Y.K=K->Y.mg=mg->Y.base=base->Inv Y pins σY H2 s2->Room k Y.A->Un fs [] H1 H2 s1.heap s2.heap->Up G1 H1 G2 H2->
  m.post (Fin G2 H2 (Rep Y.K) Q) (Exx Y σY G2 H2)->(∃o fd,s2.heap.get? f=some o/\o.data=.func fd)/\wpAny (model Y.prog Y.w) Y.A (call (.ref f) []) (EP Y pins σY Q) Y.xe s2
structure Told(P:Program)(w:World)(K:PySem.W.Frag)(mg:Str->Option Value)(base:Heap)(x:Str)(k j:Nat)(g:R D->R D):Prop where
 ex:∃ft,mg x=some (.ref ft)/\PySem.W.keepIn K (.ref ft)=true/\∀(A:Around)(outer:List Env)(s1:Shared)(G1 H1:Hp)(f:Addr)(m:R D)(Q:VK)(E:XK),Room k A->Env0 P w K mg base A outer s1 H1->Same G1 H1->Ik P w K mg base j s1 G1 H1 f m->
  (g m).post (Fin G1 H1 (Rep K) Q) (λC=>∀G' H',Up G1 H1 G' H'->E (.ref C) none H')->codeAny (model P w) A (.call (.ref ft) ⟨[.ref f],[]⟩) (CR (CXo P w) outer P w H1 s1 Q E) s1
structure LamAt(X:Cx):Prop where
 ex:∃c P q,X.env.code=.ref c/\(∀h,X.K.In h->PySem.W.CodeHd h c P)/\xV X.base P q/\q=X.env.qual++"<lambda>"/\X.base.BuiltinsAt X.mg P/\mainGlobals≠P
structure LamOk(X:Cx)(scope:Scope)(N':List Str)(ix:List Nat):Prop where
 kind:scope.kind=.function
 co:scope.isCoroutine=false
 gen:scope.isGenerator=false
 cell:∀y∈scope.names,y.2≠.cell
 fr:∀y∈scope.names,y.2=.free->X.env.kindOf y.1=some .cell
 tl:N'=ix.map λ(i:Nat)=>X.N.getD i Str.empty
 lt:∀i∈ix,i<X.N.length
 fre:∀y∈N',scope.names.lookup y=some .free/\(y,NameKind.free)∈scope.names
def HG(hk:scope.kind=.function:=by rfl)(hc:scope.isCoroutine=false:=by rfl)(hg:scope.isGenerator=false:=by rfl)(h1:(∀y∈scope.names,y.2≠.cell)/\(∀y∈scope.names,y.2=.free->y.1∈N')/\∀y∈N',scope.names.lookup y=some .free/\(y,NameKind.free)∈scope.names:=by decide +kernel)(h2:N'.map X.env.kindOf=N'.map λ_=>some NameKind.cell:=by rfl)(h3:N'=ix.map (λ(i:Nat)=>X.N.getD i Str.empty):=by rfl)(h4:ix.all (λi=>decide (i<X.N.length))=true:=by rfl):LamOk X scope N' ix:=by
 obtain⟨a,b,c⟩:=h1;exact⟨hk,hc,hg,a,λy hy h=>List.map_inj_left.1 h2 _ (b y hy h),h3,λi hi=>of_decide_eq_true (List.all_eq_true.1 h4 i hi),c⟩
section
variable{params:Arguments}{body:Expr}{lp p:Pos}{g:R D->R D}
def EI(ok:LamOk X scope N' ix)(I:Inv X pins σ H s):ClOk N' scope (sM X.env scope.names []) (fK 0 ix σ) H s.heap:=by
 have cl:∀y c,(sM X.env scope.names []).lookup y=some c->X.env.cells.lookup y=some c:=pI scope.names [] (λy c h=>by simp at h);have hasf:∀y,(y,NameKind.free)∈scope.names->∃c,(sM X.env scope.names []).lookup y=some c:=λy hy=>lG scope.names [] y (.inr ⟨hy,I.ok.has y (.inl (ok.fr _ hy rfl))⟩);refine⟨ok.kind,ok.cell,λy z c h1 h2=>I.ok.inj y z c (cl y c h1) (cl z c h2),λy hy=>hasf y (PySem.mem_of_lookup hy),λy c h=>⟨I.freeC y c (cl y c h),I.cell y c (cl y c h)⟩,λi y v h1 h2=>?_,?_⟩
 ·unfold fK at h2;rw[List.replicate_zero,List.nil_append,List.getElem?_map]at h2;cases e:ix[i]? with
  |none=>rw[e]at h2;cases h2
  |some i0=>
   rw[e]at h2;have h2':σ[i0]?=some (some v):=by
    cases q:σ[i0]? with
    |none=>rw[Option.map_some,q]at h2;cases h2
    |some z=>rw[Option.map_some,q]at h2;have:=Option.some.inj h2;rw[<- this];rfl
   have hy:X.N[i0]?=some y:=by have ht2:=h1;rw[ok.tl,List.getElem?_map,e]at ht2;have hl:=ok.lt i0 (List.mem_of_getElem? e);have q:=Option.some.inj ht2;rw[List.getElem?_eq_getElem hl,<- q];show some X.N[i0]=some (X.N.getD i0 Str.empty);rw[List.getD_eq_getElem?_getD,List.getElem?_eq_getElem hl];rfl
   obtain⟨fr1,fr2⟩:=ok.fre y (List.mem_of_getElem? h1);have kc:=ok.fr _ fr2 rfl;obtain⟨m0,hn0,hl⟩:=I.loc;obtain⟨u,ru,lk⟩:=hl i0 y v hy h2' (.inr (.inl kc));rcases lk with⟨z,_⟩|⟨_,c,hc,hcell⟩;·rw[kc]at z;cases z
   ·obtain⟨c',hc'⟩:=hasf y fr2;have:=cl y c' hc';rw[hc]at this;cases this;exact⟨u,c,ru,fr1,hc',hcell⟩
 ·unfold fK;rw[ok.tl];simp
end
def rq{w:World}{K:PySem.W.Frag}{mg:Str->Option Value}{base:Heap}{N:List Str}{cl:List (Str×Addr)}{A:Around}{outer:List Env}{E:XK}(h:At N i x)(hv:Vis (qY P w K mg base N qual scope cl f cd A outer s H E).env.scope x:=by first|exact Or.inl rfl|exact Or.inr (Or.inl rfl)|exact Or.inr (Or.inr rfl))(hd:(x==("__debug__":Str))=false:=by decide)(hcd:(x==("__classdict__":Str))=false:=by decide):PF (qY P w K mg base N qual scope cl f cd A outer s H E) (.Name x pos) (λρ=>rdV ρ i):=AB i h hv hd hcd
structure LamDef(K:PySem.W.Frag)(mg:Str->Option Value)(fd:FuncData)(Pt:Addr):Prop where
 ex:∃c,fd.code=.ref c/\∀h,K.In h->PySem.W.CodeHd h c Pt
 ne:mainGlobals≠Pt
structure LamB(K:PySem.W.Frag)(mg:Str->Option Value)(base:Heap)(qual:Str)(fd:FuncData)(Pt:Addr):Prop where
 ld:LamDef K mg fd Pt
 tb:xV base Pt (qual++".<locals>."++"<lambda>")
 bm:base.BuiltinsAt mg Pt
def Fun.okFT{w:World}{K:PySem.W.Frag}{mg:Str->Option Value}{base:Heap}{N:List Str}(F:Fun K x qual st f fd)(LB:LamB K mg base qual fd Pt)(S:FnScope N ps (aq st))(hbody:∀(cdv:Value)(A:Around)(outer:List Env)(s:Shared)(H:Hp)(E:XK),Room k (A.deeper (envOfC qual (aq st) s.heap.objs.size f cdv))->LamAt (fU (CXo P w) P w K mg base N qual (aq st) f cdv A outer s H E)->oM (fU (CXo P w) P w K mg base N qual (aq st) f cdv A outer s H E) (bb st) g):
  FnF P w K mg base (k+1) f fd ps (λds=>aD (g (aC N.length ds))):=by
 obtain⟨oc,od,kV,doc,pm,an,cdv,ct,osl,rfl,lk,hcd⟩:=F.ex;refine CO lk hcd S (λvs H Q E h=>h.1) λA outer s H vs Q E hr hsp=>?_;obtain⟨hl,G,ds,sub,r,h⟩:=hsp;have la:LamAt (fU (CXo P w) P w K mg base N qual (aq st) f cdv A outer s H E):=by obtain⟨c,ec,hd⟩:=LB.ld.ex;exact⟨c,Pt,_,ec,hd,LB.tb,rfl,LB.bm,LB.ld.ne⟩
 refine⟨_,hbody cdv A outer s H E hr la G H,G,aC N.length ds,qc sub r,?_⟩;dsimp only at h;cases q:g (aC N.length ds)with
 |nx ρ=>rw[q]at h;exact λσ G' H' sr=>h .non G' H' sr.up .non
 |rt d=>rw[q]at h;exact λv G' H' u rv=>h v G' H' u rv
 |re d ρ=>rw[q]at h;exact λv σ G' H' sr rv=>h v G' H' sr.up rv
 |bk ρ=>rw[q]at h;exact h.elim
 |ct ρ=>rw[q]at h;exact h.elim
 |ex C ρ=>rw[q]at h;exact λe s' fl=>lP fl h
 |no=>rw[q]at h;exact h.elim
noncomputable def hid(H:Hp)(ow:ko):Hp:=λa=>if (ow a).isSome=true then none else H a
def A4{o:HO}(h:hid H ow a=some o):H a=some o/\ow a=none:=by
 unfold hid at h;split at h;·cases h
 ·rename_i q;exact⟨h,by cases e:ow a with|none=>rfl|some t=>rw[e]at q;exact absurd rfl q⟩
def ke{t:Nat×Nat}(h:ow a=some t):hid H ow a=none:=by unfold hid;rw[h];exact if_pos rfl
def ik(h:ow a=none):hid H ow a=H a:=by unfold hid;rw[h];exact if_neg (by simp)
def FR(H:Hp)(ow:ko):Same (hid H ow) H:=λa o e=>(A4 e).1
noncomputable def um(i j:Nat)(ow:ko):ko:=λa=>match ow a with
 |some (i',t)=>if i'=i then some (j,t)else none
 |none=>none
def pi{t:Nat}(h:ow a=some (i,t)):um i j ow a=some (j,t):=by unfold um;rw[h];exact if_pos rfl
def A8{t:Nat×Nat}(h:um i j ow a=some t):ow a=some (i,t.2)/\t.1=j:=by
 unfold um at h;split at h
 ·rename_i i' t' e;split at h;·rename_i z;subst z;cases h;exact⟨e,rfl⟩
  ·cases h
 ·cases h
section
variable{K:PySem.W.Frag}{H₀:Hp}{m:Bool}{fs:List (Nat×Fd)}
def FdAt.hid{m':Bool}:∀{fd:Fd}{v:V},FdAt K H₀ G H ow i m k fd v->FdAt K (L2.hid H ow) G H ow i m' k fd v
 |.val d,v,r=>r
 |.own ds,v,⟨l,ws,e,h1,h2,h3,h4,h5⟩=>⟨l,ws,e,h1,h2,λ_=>ke h5,h4,h5⟩
def FdsAt.hid{m':Bool}:∀{fs:List (Nat×Fd)}{vs:List (Str×V)},FdsAt K H₀ G H ow i m fs vs->FdsAt K (L2.hid H ow) G H ow i m' fs vs
 |_,_,.nil=>.nil
 |_,_,.cons h nk r t=>.cons h nk (FdAt.hid r) (FdsAt.hid t)
def InsAt.hid(h:InsAt K H₀ G H ow i m C p fs)(m':Bool):InsAt K (L2.hid H ow) G H ow i m' C p fs:=by obtain⟨dx,vs,h1,h2,h3,h4,h5,h6,h7,h8⟩:=h;exact⟨dx,vs,h1,h2,h3,h4,λ_=>⟨ke h6,ke h7⟩,h6,h7,h8.hid⟩
def DcoAt.hid(h:DcoAt K H₀ G H ow i m p fs)(m':Bool):DcoAt K (L2.hid H ow) G H ow i m' p fs:=
 let⟨o,xs,ks,ds,h1,h2,h3,h4,h5,h6,h7⟩:=h
 ⟨o,xs,ks,ds,h1,h2,λ_=>ke h4,h4,h5,h6,h7⟩
def ObjAt.hid(h:ObjAt K H₀ G H ow i m C p fs)(m':Bool):ObjAt K (L2.hid H ow) G H ow i m' C p fs:=h.imp (λz=>⟨z.1,z.2.hid m'⟩) λz=>⟨z.1,z.2.hid m'⟩
def FdAt.ro{H₀':Hp}:∀{fd:Fd}{v:V},FdAt K H₀ G H ow i m k fd v->FdAt K H₀' G H ow i false k fd v
 |.val d,v,r=>r
 |.own ds,v,⟨l,ws,e,h1,h2,h3,h4,h5⟩=>⟨l,ws,e,h1,h2,λz=>absurd z (by decide),h4,h5⟩
def FdsAt.ro{H₀':Hp}:∀{fs:List (Nat×Fd)}{vs:List (Str×V)},FdsAt K H₀ G H ow i m fs vs->FdsAt K H₀' G H ow i false fs vs
 |_,_,.nil=>.nil
 |_,_,.cons h nk r t=>.cons h nk (FdAt.ro r) (FdsAt.ro t)
def InsAt.ro(h:InsAt K H₀ G H ow i m C p fs)(H₀':Hp):InsAt K H₀' G H ow i false C p fs:=by obtain⟨dx,vs,h1,h2,h3,h4,h5,h6,h7,h8⟩:=h;exact⟨dx,vs,h1,h2,h3,h4,λz=>absurd z (by decide),h6,h7,h8.ro⟩
def DcoAt.ro(h:DcoAt K H₀ G H ow i m p fs)(H₀':Hp):DcoAt K H₀' G H ow i false p fs:=
 let⟨o,xs,ks,ds,h1,h2,h3,h4,h5,h6,h7⟩:=h
 ⟨o,xs,ks,ds,h1,h2,λz=>(nomatch z),h4,h5,h6,h7⟩
def ObjAt.ro(h:ObjAt K H₀ G H ow i m C p fs)(H₀':Hp):ObjAt K H₀' G H ow i false C p fs:=h.imp (λz=>⟨z.1,z.2.ro H₀'⟩) λz=>⟨z.1,z.2.ro H₀'⟩
end
noncomputable def dA(m:Bool)(C p:Addr)(fs:List (Nat×Fd))(n:Nat)(ds:List D):Ev:=some (.obj m C p fs)::(ds.map (λd=>some (.val d))++List.replicate (n - (ds.length+1)) none)
def sX{K:PySem.W.Frag}{H₀:Hp}{m:Bool}{fs:List (Nat×Fd)}{N:List Str}{us:List V}(sub0:Same G H₀)(up:Up G H₀ G H)(r:Reps K G us ds)(ob:ObjAt K H₀ G H ow 0 m C p fs):
  StR K G H₀ G H (jl N (.ref p::us)) (dA m C p fs N.length ds):=by
 have hl:=r.length;have get:∀(i:Nat) x,(dA m C p fs N.length ds)[i]?=some (some x)->(i=0/\x=.obj m C p fs)\/∃k d,i=k+1/\ds[k]?=some d/\x=.val d:=λi x e=>by
  cases i with
  |zero=>left;cases e;exact⟨rfl,rfl⟩
  |succ k=>
   right;unfold dA at e;rw[List.getElem?_cons_succ]at e;by_cases hi:k<ds.length
   ·rw[List.getElem?_append_left (by simpa using hi),List.getElem?_map]at e;cases q:ds[k]? with
    |none=>rw[q]at e;cases e
    |some d=>rw[q]at e;cases e;exact⟨k,d,rfl,q,rfl⟩
   ·rw[List.getElem?_append_right (by simpa using hi),List.getElem?_replicate]at e;split at e <;> cases e
 have obs:ObSt K H₀ G H (jl N (.ref p::us)) (dA m C p fs N.length ds):=by
  refine⟨ow,λi es l e=>?_,λi m' C' p' fs' e=>?_⟩;·rcases get i _ e with⟨_,z⟩|⟨k,d,_,_,z⟩ <;> cases z
  ·rcases get i _ e with⟨rfl,z⟩|⟨k,d,_,_,z⟩;·cases z;exact⟨rfl,ob⟩
   ·cases z
 refine⟨⟨up.sub,?_,λi d e=>?_,obs.rd⟩,sub0,up,λi es e=>?_,λi j es fs l e=>?_,obs⟩;·simp[jl,dA,hl]
 ·rcases get i _ e with⟨_,z⟩|⟨k,d',rfl,e',z⟩;·cases z
  ·cases z;obtain⟨v,ev,rv⟩:=r.get e';refine⟨v,?_,rv⟩;unfold jl;rw[List.map_cons,List.cons_append,List.getElem?_cons_succ,List.getElem?_append_left (by have:=(List.getElem?_eq_some_iff.mp ev).1;simpa using this),List.getElem?_map,ev];rfl
 ·rcases get i _ e with⟨_,z⟩|⟨k,d,_,_,z⟩ <;> cases z
 ·rcases get i _ e with⟨_,z⟩|⟨k,d,_,_,z⟩ <;> cases z
inductive RM where
 |ok (d:D) (fs:List (Nat×Fd))|rd (d:D)|ex (C:Addr)|no
noncomputable abbrev MF:=List (Nat×Fd)->List D->RM
noncomputable def cV(C:Addr)(g:Ev->O)(n:Nat)(F:MF):Prop:=∀p fs ds,match F fs ds with
 |.ok d fs'=>∃ρ',ρ'[0]?=some (some (.obj true C p fs'))/\(g (dA true C p fs n ds)=.re d ρ'\/(g (dA true C p fs n ds)=.nx ρ'/\d=.non))
 |.rd d=>g (dA false C p fs n ds)=.rt d
 |.ex E=>∃ρ',g (dA false C p fs n ds)=.ex E ρ'
 |.no=>True
noncomputable def spM(K:PySem.W.Frag)(C:Addr)(F:MF):Sp:=λvs H Q E=>∃G p us ds fs ow,vs=.ref p::us/\Reps K G us ds/\Same G H/\(∀a t,ow a=some t->G a=none)/\ObjAt K (λ_=>none) G H ow 0 true C p fs/\match F fs ds with
 |.ok d fs'=>∀v G' H' ow',Up G (hid H ow) G' H'->ObjAt K (hid H ow) G' H' ow' 0 true C p fs'->Rep K G' v d->Q v H'
 |.rd d=>∀v G' H',Up G H G' H'->Rep K G' v d->Q v H'
 |.ex C'=>∀G' H',Up G H G' H'->E (.ref C') none H'
 |.no=>False
noncomputable abbrev FnM(P:Program)(w:World)(K:PySem.W.Frag)(mg:Str->Option Value)(base:Heap)(k:Nat)(f:Addr)(fd:FuncData)(ps:List Str)(C:Addr)(F:MF):Prop:=FnOk P w K mg base (CXo P w) k f fd ps (λvs H Q E=>vs.length=ps.length/\spM K C F vs H Q E)
def HX(sub:Same G H)(hg:∀a t,ow a=some t->G a=none):Same G (hid H ow)/\Up G (hid H ow) G H:=by
 have s:Same G (hid H ow):=λa o e=>by
  cases q:ow a with
  |none=>rw[ik q];exact sub a o e
  |some t=>rw[hg a t q]at e;cases e
 exact⟨s,sub,.refl _,FR H ow,λ_ _ e=>.inl e⟩
def Fun.okM{w:World}{K:PySem.W.Frag}{mg:Str->Option Value}{base:Heap}{N:List Str}{F:MF}(Fn:Fun K x qual st f fd)(S:FnScope N ps (aq st))(ok:cV C g N.length F)(hbody:∀(cdv:Value)(A:Around)(outer:List Env)(s:Shared)(H:Hp)(E:XK),Room k (A.deeper (envOfC qual (aq st) s.heap.objs.size f cdv))->oM (fU (CXo P w) P w K mg base N qual (aq st) f cdv A outer s H E) (bb st) g):
  FnM P w K mg base (k+1) f fd ps C F:=by
 obtain⟨oc,od,kV,doc,pm,an,cdv,ct,osl,rfl,lk,hcd⟩:=Fn.ex;refine CO lk hcd S (λvs H Q E h=>h.1) λA outer s H vs Q E hr hsp=>?_;obtain⟨hl,G,p,us,ds,fs,ow,rfl,r,sub,og,ob,h⟩:=hsp;have o:=ok p fs ds;have rdo:StR K G H G H (jl N (.ref p::us)) (dA false C p fs N.length ds):=sX sub (.refl sub) r (ob.ro H);cases q:F fs ds with
 |no=>rw[q]at h;exact h.elim
 |rd d=>rw[q]at h o;refine⟨_,hbody cdv A outer s H E hr G H,G,_,rdo,?_⟩;have o:g (dA false C p fs N.length ds)=.rt d:=o;rw[o];exact λv G' H' u rv=>h v G' H' u rv
 |ex C'=>rw[q]at h o;obtain⟨ρ',o⟩:=o;refine⟨_,hbody cdv A outer s H E hr G H,G,_,rdo,?_⟩;rw[o];exact λe s' fl=>lP fl h
 |ok d fs'=>
  rw[q]at h o;obtain⟨ρ',e0,o⟩:=o;obtain⟨s0,u0⟩:=HX sub og;refine⟨_,hbody cdv A outer s H E hr G (hid H ow),G,dA true C p fs N.length ds,sX s0 u0 r (ob.hid true),?_⟩;have fin:∀σ G' H',StR K G (hid H ow) G' H' σ ρ'->∃ow',ObjAt K (hid H ow) G' H' ow' 0 true C p fs':=λσ G' H' sr=>by obtain⟨ow',_,o2⟩:=sr.ob;exact⟨ow',(o2 0 true C p fs' e0).2⟩
  rcases o with o|⟨o,rfl⟩;·rw[o];intro v σ G' H' sr rv;obtain⟨ow',z⟩:=fin σ G' H' sr;exact h v G' H' ow' sr.up z rv
  ·rw[o];intro σ G' H' sr;obtain⟨ow',z⟩:=fin σ G' H' sr;exact h .non G' H' ow' sr.up z .non
noncomputable def nU(i:Nat)(m:Bool)(H₀ G H:Hp)(ow:ko):ko:=λa=>open Classical in if (∃o,H a=some o)/\G a=none/\(m=true->H₀ a=none)then um i 0 ow a else none
section
variable{K:PySem.W.Frag}{H₀:Hp}{m:Bool}{fs:List (Nat×Fd)}
def qJ{t:Nat}{o:HO}(h:ow a=some (i,t))(e:H a=some o)(g:G a=none)(z:m=true->H₀ a=none):nU i m H₀ G H ow a=some (0,t):=by unfold nU;rw[if_pos ⟨⟨o,e⟩,g,z⟩];exact pi h
def iQ{t:Nat×Nat}(h:nU i m H₀ G H ow a=some t):ow a=some (i,t.2)/\(∃o,H a=some o)/\G a=none/\(m=true->H₀ a=none):=by
 unfold nU at h;split at h;·rename_i q;exact⟨(A8 h).1,q⟩
 ·cases h
def FdAt.cut:∀{fd:Fd}{v:V},FdAt K H₀ G H ow i m k fd v->FdAt K (λ_=>none) G H (nU i m H₀ G H ow) 0 true k fd v
 |.val d,v,r=>r
 |.own ds,v,⟨l,ws,e,h1,h2,h3,h4,h5⟩=>⟨l,ws,e,h1,h2,λ_=>rfl,h4,qJ h5 h1 h2 h3⟩
def FdsAt.cut:∀{fs:List (Nat×Fd)}{vs:List (Str×V)},FdsAt K H₀ G H ow i m fs vs->FdsAt K (λ_=>none) G H (nU i m H₀ G H ow) 0 true fs vs
 |_,_,.nil=>.nil
 |_,_,.cons h nk r t=>.cons h nk (FdAt.cut r) (FdsAt.cut t)
def InsAt.cut(h:InsAt K H₀ G H ow i m C p fs):InsAt K (λ_=>none) G H (nU i m H₀ G H ow) 0 true C p fs:=by obtain⟨dx,vs,h1,h2,h3,h4,h5,h6,h7,h8⟩:=h;exact⟨dx,vs,h1,h2,h3,h4,λ_=>⟨rfl,rfl⟩,qJ h6 h1 h3 λz=>(h5 z).1,qJ h7 h2 h4 λz=>(h5 z).2,h8.cut⟩
def DcoAt.cut(h:DcoAt K H₀ G H ow i m p fs):DcoAt K (λ_=>none) G H (nU i m H₀ G H ow) 0 true p fs:=
 let⟨o,xs,ks,ds,h1,h2,h3,h4,h5,h6,h7⟩:=h
 ⟨o,xs,ks,ds,h1,h2,λ_=>rfl,qJ h4 h1 h2 h3,h5,h6,h7⟩
def ObjAt.cut(h:ObjAt K H₀ G H ow i m C p fs):ObjAt K (λ_=>none) G H (nU i m H₀ G H ow) 0 true C p fs:=h.imp (λz=>⟨z.1,z.2.cut⟩) λz=>⟨z.1,z.2.cut⟩
end
section
variable{K:PySem.W.Frag}{H₀ H₀':Hp}{ow2:ko}
def FdAt.newtag(h:∀a t,ow a=some (0,t)->H₀ a=none->ow2 a=some (i,t))(z:∀a,H₀ a=none->H₀' a=none):∀{fd:Fd}{v:V},FdAt K H₀ G H ow 0 true k fd v->FdAt K H₀' G H ow2 i true k fd v
 |.val d,v,r=>r
 |.own ds,v,⟨l,ws,e,h1,h2,h3,h4,h5⟩=>⟨l,ws,e,h1,h2,λ_=>z l (h3 rfl),h4,h l _ h5 (h3 rfl)⟩
def FdsAt.newtag(h:∀a t,ow a=some (0,t)->H₀ a=none->ow2 a=some (i,t))(z:∀a,H₀ a=none->H₀' a=none):∀{fs:List (Nat×Fd)}{vs:List (Str×V)},FdsAt K H₀ G H ow 0 true fs vs->FdsAt K H₀' G H ow2 i true fs vs
 |_,_,.nil=>.nil
 |_,_,.cons k nk r t=>.cons k nk (FdAt.newtag h z r) (FdsAt.newtag h z t)
def InsAt.newtag{fs:List (Nat×Fd)}(h:∀a t,ow a=some (0,t)->H₀ a=none->ow2 a=some (i,t))(z:∀a,H₀ a=none->H₀' a=none)(o:InsAt K H₀ G H ow 0 true C p fs):InsAt K H₀' G H ow2 i true C p fs:=by obtain⟨dx,vs,h1,h2,h3,h4,h5,h6,h7,h8⟩:=o;exact⟨dx,vs,h1,h2,h3,h4,λ_=>⟨z p (h5 rfl).1,z dx (h5 rfl).2⟩,h p _ h6 (h5 rfl).1,h dx _ h7 (h5 rfl).2,h8.newtag h z⟩
def DcoAt.newtag{fs:List (Nat×Fd)}(h:∀a t,ow a=some (0,t)->H₀ a=none->ow2 a=some (i,t))(z:∀a,H₀ a=none->H₀' a=none)(o:DcoAt K H₀ G H ow 0 true p fs):DcoAt K H₀' G H ow2 i true p fs:=
 let⟨o,xs,ks,ds,h1,h2,h3,h4,h5,h6,h7⟩:=o
 ⟨o,xs,ks,ds,h1,h2,λ_=>z p (h3 rfl),h p 0 h4 (h3 rfl),h5,h6,h7⟩
def ObjAt.newtag{fs:List (Nat×Fd)}(h:∀a t,ow a=some (0,t)->H₀ a=none->ow2 a=some (i,t))(z:∀a,H₀ a=none->H₀' a=none)(o:ObjAt K H₀ G H ow 0 true C p fs):ObjAt K H₀' G H ow2 i true C p fs:=o.imp (λy=>⟨y.1,y.2.newtag h z⟩) λy=>⟨y.1,y.2.newtag h z⟩
end
def StR.meth{K:PySem.W.Frag}{H₀ G':Hp}{fs:List (Nat×Fd)}{ow':ko}(s:StR K G₀ H₀ G H σ ρ)(e:ρ[i]?=some (some (.obj true C p fs)))(o1:∀(j:Nat) ds l,ρ[j]?=some (some (.own ds))->σ[j]?=some (some (.ref l))->ow l=some (j,0))(o2:∀(j:Nat) m C p fs,ρ[j]?=some (some (.obj m C p fs))->σ[j]?=some (some (.ref p))/\ObjAt K H₀ G H ow j m C p fs)(u:Up G (hid H (nU i true H₀ G H ow)) G' H')(ob:ObjAt K (hid H (nU i true H₀ G H ow)) G' H' ow' 0 true C p fs'):StR K G₀ H₀ G' H' σ (ρ.set i (some (.obj true C p fs'))):=by
 have hl:i<ρ.length:=(List.getElem?_eq_some_iff.mp e).1;have get:∀(j:Nat) x,(ρ.set i (some (.obj true C p fs')))[j]?=some (some x)->(j=i/\x=.obj true C p fs')\/(j≠i/\ρ[j]?=some (some x)):=λj x h=>by
  by_cases z:i=j;·subst z;rw[List.getElem?_set_self hl]at h;exact .inl ⟨rfl,by injection (Option.some.inj h)with q;exact q.symm⟩
  ·rw[List.getElem?_set_ne z]at h;exact .inr ⟨λq=>z q.symm,h⟩
 have keep:∀a o,H a=some o->nU i true H₀ G H ow a=none->H' a=some o:=λa o q n=>u.hh a o (by rw[ik n];exact q);have out0:∀a,H₀ a≠none->nU i true H₀ G H ow a=none:=λa q=>by
  cases z:nU i true H₀ G H ow a with
  |none=>rfl
  |some t=>exact absurd ((iQ z).2.2.2 rfl) q
 have outT:∀a j t,j≠i->ow a=some (j,t)->nU i true H₀ G H ow a=none:=λa j t nj q=>by
  cases z:nU i true H₀ G H ow a with
  |none=>rfl
  |some t'=>have:=(iQ z).1;rw[q]at this;cases this;exact absurd rfl nj
 have gn:∀a o,H a=some o->G a=none->nU i true H₀ G H ow a=none->G' a=none:=λa o q g n=>by
  cases z:G' a with
  |none=>rfl
  |some o'=>
   rcases u.fr a o' z with z|z;·rw[g]at z;cases z
   ·rw[ik n,q]at z;cases z
 have up:Up G₀ H₀ G' H':=by
  refine⟨u.sub,s.up.gg.trans u.gg,λa o q=>keep a o (s.up.hh a o q) (out0 a (by rw[q];simp)),λa o q=>?_⟩;rcases u.fr a o q with z|z;·exact s.up.fr a o z
  ·by_cases n:nU i true H₀ G H ow a=none;·rw[ik n]at z;exact .inr (s.up.hh.free z)
   ·cases y:nU i true H₀ G H ow a with
    |none=>exact absurd y n
    |some t=>exact .inr ((iQ y).2.2.2 rfl)
 have ob':ObSt K H₀ G' H' σ (ρ.set i (some (.obj true C p fs'))):=by
  refine⟨λa=>open Classical in if hid H (nU i true H₀ G H ow) a=none then um 0 i ow' a else ow a,λj ds l h1 h2=>?_,λj m' C' p' fs'' h1=>?_⟩
  ·rcases get j _ h1 with⟨_,z⟩|⟨nj,f1⟩;·cases z
   ·have ol:=o1 j ds l f1 h2;obtain⟨l2,vs,q1,q2,_⟩:=s.own j ds f1;rw[h2]at q1;cases q1;have n:=outT l j 0 nj ol;refine(if_neg ?_).trans ol;rw[ik n,q2];simp
  ·rcases get j _ h1 with⟨rfl,z⟩|⟨nj,f1⟩
   ·cases z;refine⟨(o2 j true C p fs e).1,?_⟩;refine ob.newtag (λa t q n=>(if_pos n).trans (pi q)) λa n=>?_;by_cases y:nU j true H₀ G H ow a=none;·rw[ik y]at n;exact s.up.hh.free n
    ·cases y':nU j true H₀ G H ow a with
     |none=>exact absurd y' y
     |some t=>exact(iQ y').2.2.2 rfl
   ·refine⟨(o2 j m' C' p' fs'' f1).1,(o2 j m' C' p' fs'' f1).2.keep ⟨λa t o q1 q=>keep a o q (outT a j t nj q1),u.gg,λa t o q1 q n=>gn a o q n (outT a j t nj q1),λa t o q1 q=>?_,λa o _ _ n=>n⟩⟩;refine(if_neg ?_).trans q1;rw[ik (outT a j t nj q1),q];simp
 refine⟨⟨u.sub,by simp[s.e.len],λj d h=>?_,ob'.rd⟩,s.sub0,up,λj ds h=>?_,λj k ds es l q1 q2 q3 q4=>?_,ob'⟩
 ·rcases get j _ h with⟨_,z⟩|⟨_,f1⟩;·cases z
  ·obtain⟨v,p1,p2⟩:=s.e.val j d f1;exact⟨v,p1,p2.mono u.gg⟩
 ·rcases get j _ h with⟨_,z⟩|⟨nj,f1⟩;·cases z
  ·obtain⟨l,vs,p1,p2,p3,p4,p5⟩:=s.own j ds f1;have n:=outT l j 0 nj (o1 j ds l f1 p1);exact⟨l,vs,p1,keep l _ p2 n,gn l _ p2 p3 n,p4,p5.mono u.gg⟩
 ·rcases get j _ q1 with⟨_,z⟩|⟨nj,f1⟩;·cases z
  ·rcases get k _ q2 with⟨_,z⟩|⟨nk,f2⟩;·cases z
   ·exact s.inj j k ds es l f1 f2 q3 q4
end L2
variable{F I_offer_with_order au bT am:L2.MF}
namespace L2
open PySem PySem.Spec PyProof.Rows
def nr:∀j,j<fnames.length->∀k,k<fnames.length->di j=di k->j=k:=by decide +kernel
noncomputable def jm(k:Nat)(fd:Fd):List (Nat×Fd)->List (Nat×Fd)
 | []=>[(k,fd)]
 | (j,x)::r=>if j=k then (j,fd)::r else (j,x)::jm k fd r
def ni{k j:Nat}{fd:Fd}(h:j≠k):∀{fs:List (Nat×Fd)},fs.lookup j=none->(jm k fd fs).lookup j=none
 | [],_=>by
  have z:(j==k)=false:=by simp[h]
  simp only[jm,List.lookup_cons,z,List.lookup_nil]
 | (a,x)::r,e=>by
  have ha:(j==a)=false:=by
   cases q:j==a with
   |false=>rfl
   |true=>simp only[List.lookup_cons,q]at e;cases e
  have er:r.lookup j=none:=by simpa only[List.lookup_cons,ha]using e
  unfold jm;by_cases z:a=k;·rw[if_pos z];simpa only[List.lookup_cons,ha]using er
  ·rw[if_neg z];simp only[List.lookup_cons,ha];exact ni h er
section
variable{K:PySem.W.Frag}{H₀:Hp}{m:Bool}
def FdsAt.keys:∀{fs:List (Nat×Fd)}{vs:List (Str×V)},FdsAt K H₀ G H ow i m fs vs->∀j fd,fs.lookup j=some fd->j<fnames.length
 |_,_,.nil,j,fd,e=>by simp at e
 |_,_,.cons (k:=a) h nk r t,j,fd,e=>by
  cases q:j==a with
  |true=>rw[beq_iff_eq.mp q];exact h
  |false=>simp only[List.lookup_cons,q]at e;exact FdsAt.keys t j fd e
def FdsAt.get:∀{fs:List (Nat×Fd)}{vs:List (Str×V)}{fd:Fd},FdsAt K H₀ G H ow i m fs vs->fs.lookup k=some fd->∃v,vs.lookup (di k)=some v/\FdAt K H₀ G H ow i m k fd v
 |_,_,_,.nil,e=>by simp at e
 |_,_,fd,.cons (k:=a) h nk r t,e=>by
  cases q:k==a with
  |true=>have z:=beq_iff_eq.mp q;subst z;simp only[List.lookup_cons,q]at e;cases e;exact⟨_,by simp[List.lookup_cons],r⟩
  |false=>
   simp only[List.lookup_cons,q]at e;obtain⟨v,e1,e2⟩:=FdsAt.get t e;have hk:=t.keys k fd e;have ne:(di k==di a)=false:=by
    cases z:di k==di a with
    |false=>rfl
    |true=>have:=nr k hk a h (eq_of_beq z);rw[this]at q;simp at q
   exact⟨v,by simp only[List.lookup_cons,ne];exact e1,e2⟩
def FdsAt.put{fd:Fd}(hk:k<fnames.length)(r:FdAt K H₀ G H ow i m k fd v):∀{fs:List (Nat×Fd)}{vs:List (Str×V)},FdsAt K H₀ G H ow i m fs vs->FdsAt K H₀ G H ow i m (jm k fd fs) (oT (di k) v vs)
 |_,_,.nil=>.cons hk rfl r .nil
 |_,_,.cons (k:=a) h nk r' t=>by
  unfold jm oT;by_cases z:a=k;·subst z;rw[if_pos rfl,if_pos rfl];exact .cons h nk r t
  ·rw[if_neg z,if_neg (λq=>z (nr a h k hk q))];exact .cons h (ni (λq=>z q) nk) r' (FdsAt.put hk r t)
def FdsAt.len:∀{fs:List (Nat×Fd)}{vs:List (Str×V)},FdsAt K H₀ G H ow i m fs vs->vs.length=fs.length
 |_,_,.nil=>rfl
 |_,_,.cons h nk r t=>by simp[FdsAt.len t]
def FdsAt.keepL{ow2:ko}(h:∀l ws,H l=some (.lst ws)->H' l=some (.lst ws)/\ow2 l=ow l):∀{fs:List (Nat×Fd)}{vs:List (Str×V)},FdsAt K H₀ G H ow i m fs vs->FdsAt K H₀ G H' ow2 i m fs vs
 |_,_,.nil=>.nil
 |_,_,.cons (fd:=fd) hk nk r t=>.cons hk nk (by
   cases fd with
   |val d=>exact r
   |own ds=>obtain⟨l,ws,e,h1,h2,h3,h4,h5⟩:=r;exact⟨l,ws,e,(h l ws h1).1,h2,h3,h4,by rw[(h l ws h1).2];exact h5⟩) (FdsAt.keepL h t)
def FdsAt.mutL{l:Addr}{us:List V}{es:List D}(re:Reps K G us es)(ol:ow l=some (i,k+1))(gl:G l=none)(hl:m=true->H₀ l=none):∀{fs:List (Nat×Fd)}{vs:List (Str×V)}{ds:List D},FdsAt K H₀ G H ow i m fs vs->fs.lookup k=some (.own ds)->vs.lookup (di k)=some (.ref l)->
  FdsAt K H₀ G (upd H l (.lst us)) ow i m (jm k (.own es) fs) vs
 |_,_,_,.nil,e,_=>by simp at e
 |_,_,ds,.cons (k:=a) (fd:=fd) (v:=v) (fs:=fs) (vs:=vs) h nk r t,e,e2=>by
  have stay:∀{j:Nat}{fd:Fd}{v:V},j≠k->FdAt K H₀ G H ow i m j fd v->FdAt K H₀ G (upd H l (.lst us)) ow i m j fd v:=λ{j fd v} nj q=>by
   cases fd with
   |val d=>exact q
   |own ds=>obtain⟨l',ws,e,h1,h2,h3,h4,h5⟩:=q;refine⟨l',ws,e,?_,h2,h3,h4,h5⟩;rw[aH];exact h1;intro z;rw[z,ol]at h5;cases h5;exact nj rfl
  have stays:∀{fs:List (Nat×Fd)}{vs:List (Str×V)},fs.lookup k=none->FdsAt K H₀ G H ow i m fs vs->FdsAt K H₀ G (upd H l (.lst us)) ow i m fs vs:=by
   intro fs vs n q;induction q with
   |nil=>exact .nil
   | @cons b fd' v' fs' vs' h' nk' r' t' ih=>
    have nb:(k==b)=false:=by
     cases z:k==b with
     |false=>rfl
     |true=>simp only[List.lookup_cons,z]at n;cases n
    have nt:fs'.lookup k=none:=by simpa only[List.lookup_cons,nb]using n
    exact .cons h' nk' (stay (λz=>by rw[z]at nb;simp at nb) r') (ih nt)
  unfold jm;by_cases z:a=k
  ·subst z;rw[if_pos rfl];have ev:v=.ref l:=by simpa[List.lookup_cons]using e2
   subst ev;exact .cons h nk ⟨l,us,rfl,aS,gl,hl,re,ol⟩ (stays nk t)
  ·rw[if_neg z];have q1:(k==a)=false:=by simp;exact λq=>z q.symm
   have e':fs.lookup k=some (.own ds):=by simpa only[List.lookup_cons,q1]using e
   have hk:=t.keys k _ e';have q2:(di k==di a)=false:=by
    cases y:di k==di a with
    |false=>rfl
    |true=>exact absurd (nr k hk a h (eq_of_beq y)) λq=>z q.symm
   have e2':vs.lookup (di k)=some (.ref l):=by simpa only[List.lookup_cons,q2]using e2
   exact .cons h (ni z nk) (stay z r) (FdsAt.mutL re ol gl hl t e' e2')
end
def StR.objTo{K:PySem.W.Frag}{H₀:Hp}{fs:List (Nat×Fd)}{ow2:ko}(s:StR K G₀ H₀ G H σ ρ)(e:ρ[i]?=some (some (.obj true C p fs)))(o1:∀(j:Nat) ds l,ρ[j]?=some (some (.own ds))->σ[j]?=some (some (.ref l))->ow l=some (j,0))(o2:∀(j:Nat) m C p fs,ρ[j]?=some (some (.obj m C p fs))->σ[j]?=some (some (.ref p))/\ObjAt K H₀ G H ow j m C p fs)(hh:∀a o,H a=some o->(∀t,ow a≠some (i,t))->H' a=some o)(h0:Same H₀ H')(sub:Same G H')(oo:∀a j t o,j≠i->ow a=some (j,t)->H a=some o->ow2 a=some (j,t))(ob:ObjAt K H₀ G H' ow2 i true C p fs'):StR K G₀ H₀ G H' σ (ρ.set i (some (.obj true C p fs'))):=by
 have hl:i<ρ.length:=(List.getElem?_eq_some_iff.mp e).1;have get:∀(j:Nat) x,(ρ.set i (some (.obj true C p fs')))[j]?=some (some x)->(j=i/\x=.obj true C p fs')\/(j≠i/\ρ[j]?=some (some x)):=λj x h=>by
  by_cases z:i=j;·subst z;rw[List.getElem?_set_self hl]at h;exact .inl ⟨rfl,by injection (Option.some.inj h)with q;exact q.symm⟩
  ·rw[List.getElem?_set_ne z]at h;exact .inr ⟨λq=>z q.symm,h⟩
 have ob':ObSt K H₀ G H' σ (ρ.set i (some (.obj true C p fs'))):=by
  refine⟨ow2,λj ds l h1 h2=>?_,λj m' C' p' fs'' h1=>?_⟩
  ·rcases get j _ h1 with⟨_,z⟩|⟨nj,f1⟩;·cases z
   ·obtain⟨l2,vs,q1,q2,_⟩:=s.own j ds f1;rw[h2]at q1;cases q1;exact oo l j 0 _ nj (o1 j ds l f1 h2) q2
  ·rcases get j _ h1 with⟨rfl,z⟩|⟨nj,f1⟩;·cases z;exact⟨(o2 j true C p fs e).1,ob⟩
   ·exact⟨(o2 j m' C' p' fs'' f1).1,(o2 j m' C' p' fs'' f1).2.keep ⟨λa t o q1 q=>hh a o q (λt' z=>by rw[q1]at z;cases z;exact nj rfl),.refl _,λa t o _ _ n=>n,λa t o q1 q=>oo a j t o nj q1 q,λa o _ _ n=>n⟩⟩
 refine⟨⟨sub,by simp[s.e.len],λj d h=>?_,ob'.rd⟩,s.sub0,⟨sub,s.up.gg,h0,s.up.fr⟩,λj ds h=>?_,λj k ds es l q1 q2 q3 q4=>?_,ob'⟩
 ·rcases get j _ h with⟨_,z⟩|⟨_,f1⟩;·cases z
  ·exact s.e.val j d f1
 ·rcases get j _ h with⟨_,z⟩|⟨nj,f1⟩;·cases z
  ·obtain⟨l,vs,p1,p2,p3,p4,p5⟩:=s.own j ds f1;exact⟨l,vs,p1,hh l _ p2 (λt z=>by rw[o1 j ds l f1 p1]at z;cases z;exact nj rfl),p3,p4,p5⟩
 ·rcases get j _ q1 with⟨_,z⟩|⟨nj,f1⟩;·cases z
  ·rcases get k _ q2 with⟨_,z⟩|⟨nk,f2⟩;·cases z
   ·exact s.inj j k ds es l f1 f2 q3 q4
section
variable{K:PySem.W.Frag}{H₀:Hp}{dx:Addr}{fs:List (Nat×Fd)}{vs:List (Str×V)}
def StR.fmut(s:StR K G₀ H₀ G H σ ρ)(e:ρ[i]?=some (some (.obj true C p fs))){es:List D}{us:List V}(ek:fs.lookup k=some (.own ds))(re:Reps K G us es){l:Addr}(hp:H p=some (.ins C dx vs))(el:vs.lookup (di k)=some (.ref l)):
  StR K G₀ H₀ G (upd H l (.lst us)) σ (ρ.set i (some (.obj true C p (jm k (.own es) fs)))):=by
 obtain⟨ow,o1,o2⟩:=s.ob;obtain⟨hne,dx',vs',h1,h2,h3,h4,h5,h6,h7,h8⟩:=(o2 i true C p fs e).2.insH hp;rw[hp]at h1;cases h1;obtain⟨v,e1,l',ws,ev,g1,g2,g3,g4,g5⟩:=h8.get ek;rw[el]at e1;cases e1;cases ev;have np:∀{a:Addr}{o:HO},H a=some o->(∀xs,o≠.lst xs)->a≠l:=λq n z=>by rw[z,g1]at q;cases q;exact n _ rfl
 refine s.objTo e o1 o2 (ow2:=ow) (λa o q n=>?_) (λa o q=>?_) (λa o q=>?_) (λa j t o _ q _=>q) ?_;·rw[aH (λz=>n _ (z▸g5))];exact q
 ·rw[aH (λz=>by rw[z,g3 rfl]at q;cases q)];exact s.up.hh a o q
 ·rw[aH (λz=>by rw[z,g2]at q;cases q)];exact s.e.sub a o q
 ·refine .inl ⟨hne,dx,vs,?_,?_,h3,h4,h5,h6,h7,h8.mutL re g5 g2 g3 ek el⟩;·rw[aH (np hp λ_ z=>by cases z)];exact hp
  ·rw[aH (np h2 λ_ z=>by cases z)];exact h2
def StR.fputL(s:StR K G₀ H₀ G H σ ρ)(e:ρ[i]?=some (some (.obj true C p fs)))(hk:k<fnames.length){l:Addr}{us:List V}(hl:H l=none)(r:Reps K G us ds)(hp:H p=some (.ins C dx vs)):
  StR K G₀ H₀ G (upd (upd H l (.lst us)) p (.ins C dx (oT (di k) (.ref l) vs))) σ (ρ.set i (some (.obj true C p (jm k (.own ds) fs)))):=by
 obtain⟨ow,o1,o2⟩:=s.ob;obtain⟨hne,dx',vs',h1,h2,h3,h4,h5,h6,h7,h8⟩:=(o2 i true C p fs e).2.insH hp;rw[hp]at h1;cases h1;have nl:∀{a:Addr}{o:HO},H a=some o->a≠l:=λq z=>by rw[z,hl]at q;cases q
 have gl:G l=none:=s.e.sub.free hl;have h0l:H₀ l=none:=s.up.hh.free hl;refine s.objTo e o1 o2 (ow2:=λa=>if a=l then some (i,k+1)else ow a) (λa o q n=>?_) (λa o q=>?_) (λa o q=>?_) (λa j t o _ q q2=>(if_neg (nl q2)).trans q) ?_;·rw[aH (λz=>n _ (z▸h6)),aH (nl q)];exact q
 ·rw[aH (λz=>by rw[z,(h5 rfl).1]at q;cases q),aH (nl (s.up.hh a o q))];exact s.up.hh a o q
 ·rw[aH (λz=>by rw[z,h3]at q;cases q),aH (nl (s.e.sub a o q))];exact s.e.sub a o q
 ·refine .inl ⟨hne,dx,_,aS,?_,h3,h4,h5,(if_neg (nl hp)).trans h6,(if_neg (nl h2)).trans h7,?_⟩;·rw[aH (λz=>by rw[z,hp]at h2;cases h2),aH (nl h2)];exact h2
  ·refine FdsAt.put (fd:=.own ds) hk ⟨l,us,rfl,?_,gl,λ_=>h0l,r,if_pos rfl⟩ (h8.keepL λl' ws q=>⟨?_,if_neg (nl q)⟩);·rw[aH (λz=>nl hp z.symm),aS]
   ·rw[aH (λz=>by rw[z,hp]at q;cases q),aH (nl q)];exact q
end
noncomputable def oH(C:Addr)(ρ:Ev)(i:Nat):R (List (Nat×Fd)):=match ρ[i]? with
 |some (some (.obj _ C' _ fs))=>if C'=C then .ok fs else .no
 |_=>.no
noncomputable def pS(C:Addr)(ρ:Ev)(i:Nat):R (Addr×List (Nat×Fd)):=match ρ[i]? with
 |some (some (.obj true C' p fs))=>if C'=C then .ok (p,fs)else .no
 |_=>.no
noncomputable def fldL(fs:List (Nat×Fd))(k:Nat):R (List D):=match fs.lookup k with
 |some (.own ds)=>.ok ds
 |_=>.no
noncomputable def vQ(C:Addr)(i k:Nat)(gb:Ev->R D):Ev->R D:=λρ=>oH C ρ i>>=λfs=>fldL fs k>>=λds=>gb ρ>>=λd=>ofO (ixD (.lst false ds) d)
noncomputable def mz(C:Addr)(i k:Nat):Ev->R D:=λρ=>oH C ρ i>>=λfs=>fldL fs k>>=λds=>.ok (.int ds.length)
noncomputable def BZ(C:Addr)(i k:Nat)(ga:Ev->R D):Ev->O:=λρ=>(pS C ρ i).out ρ λo=>(fldL o.2 k).out ρ λds=>(ga ρ).out ρ λd=>if ds.length<sizeLine then .nx (ρ.set i (some (.obj true C o.1 (jm k (.own (ds++[d])) o.2))))else .no
noncomputable def BE(C:Addr)(i k j:Nat):Ev->O:=λρ=>(pS C ρ i).out ρ λo=>(fldL o.2 k).out ρ λds=>match ds.getLast? with
 |some d=>if i≠j then .nx ((ρ.set i (some (.obj true C o.1 (jm k (.own ds.dropLast) o.2)))).set j (some (.val d)))else .no
 |none=>.no
noncomputable def zF(C:Addr)(i k:Nat)(gl:Ev->R (List D)):Ev->O:=λρ=>(pS C ρ i).out ρ λo=>(gl ρ).out ρ λds=>if o.2.length<900 then .nx (ρ.set i (some (.obj true C o.1 (jm k (.own ds) o.2))))else .no
noncomputable def CA(ga:Ev->R D):Ev->O:=λρ=>(ga ρ).out ρ λd=>.re d ρ
structure CF(K:PySem.W.Frag)(C:Addr)(ks:List Nat):Prop where
 cl:Cls K C
 ne:C≠DC
 na:∀k∈ks,k<fnames.length/\NoAttr K C (di k)
def uu{α:Type}{k:List (Nat×Fd)->R α}{P:α->Prop}{E:Addr->Prop}(h:(oH C ρ i>>=k).post P E):∃m p fs,ρ[i]?=some (some (.obj m C p fs))/\(k fs).post P E:=by
 unfold oH at h;split at h
 ·rename_i m C' p fs e;by_cases z:C'=C;·subst z;rw[if_pos rfl]at h;exact⟨m,p,fs,e,h⟩
  ·rw[if_neg z]at h;exact h.elim
 ·exact h.elim
def yh{fs:List (Nat×Fd)}{n:Nat}{α:Type}{k:List D->R α}{P:α->Prop}{E:Addr->Prop}(h:(fldL fs n>>=k).post P E):∃ds,fs.lookup n=some (.own ds)/\(k ds).post P E:=by
 unfold fldL at h;split at h;·rename_i ds e;exact⟨ds,e,h⟩
 ·exact h.elim
def kR{H₀:Hp}{D:Ends}{k:Addr×List (Nat×Fd)->O}(h:jH X G₀ H₀ D ((pS C ρ i).out ρ k)):∃p fs,ρ[i]?=some (some (.obj true C p fs))/\jH X G₀ H₀ D (k (p,fs)):=by
 unfold pS at h;split at h
 ·rename_i C' p fs e;by_cases z:C'=C;·subst z;rw[if_pos rfl]at h;exact⟨p,fs,e,h⟩
  ·rw[if_neg z]at h;exact h.elim
 ·exact h.elim
def vU{H₀:Hp}{D:Ends}{fs:List (Nat×Fd)}{n:Nat}{k:List L2.D->O}(h:jH X G₀ H₀ D ((fldL fs n).out ρ k)):∃ds,fs.lookup n=some (.own ds)/\jH X G₀ H₀ D (k ds):=by
 unfold fldL at h;split at h;·rename_i ds e;exact⟨ds,e,h⟩
 ·exact h.elim
section
variable{e b:Expr}{ga:Ev->R D}{f:Str}{p1 p2 p3 ap cp:Pos}
def StE.fldL{K:PySem.W.Frag}{m:Bool}{fs:List (Nat×Fd)}(st:StE K G H σ ρ)(e:ρ[i]?=some (some (.obj m C p fs)))(ek:fs.lookup k=some (.own ds)):
  ∃dx vs l ws,σ[i]?=some (some (.ref p))/\H p=some (.ins C dx vs)/\vs.lookup (di k)=some (.ref l)/\H l=some (.lst ws)/\Reps K G ws ds:=by
 obtain⟨es,ow,ob⟩:=st.obs i m C p fs e;obtain⟨dx,vs,h1,h2,h3,h4,h5,h6,h7,h8⟩:=ob.insL ek;obtain⟨v,e1,l,ws,rfl,g1,g2,g3,g4,g5⟩:=h8.get ek;exact⟨dx,vs,l,ws,es,h1,e1,g1,g4⟩
def zI(i k:Nat)(c:CF X.K C ks)(hk:k∈ks)(hb:PF X b gb)(hi:X.N[i]?=some x:=by rfl)(hv:Vis X.env.scope x:=by first|exact Or.inl rfl|exact Or.inr (Or.inl rfl)|exact Or.inr (Or.inr rfl))(hf:f=di k:=by rfl)(hd:(x==("__debug__":Str))=false:=by decide)(hcd:(x==("__classdict__":Str))=false:=by decide)(hba:attributeBase (.Name x p1) f X.env (eval (.Name x p1) X.env)=eval (.Name x p1) X.env:=by rfl)(hs:pL b:=by exact λ_ _=>rfl):
  PF X (.Subscript (.Attribute (.Name x p1) f p2) b pos) (vQ C i k gb):=λpins s σ H Q I h=>by
 subst hf;refine Fc ix_list (wa (dv hi hv hd hcd) hba) hb hs pins s σ H Q I ?_;obtain⟨G,ρ,st,h⟩:=h;obtain⟨m,p,fs,e1,h⟩:=uu h;obtain⟨ds,e2,h⟩:=yh h;obtain⟨dx,vs,l,ws,h1,h2,h3,h4,h5⟩:=st.fldL e1 e2;refine⟨.ref p,h1,p,C,dx,vs,.ref l,rfl,h2,c.cl,(c.na k hk).2,h3,?_⟩;refine tG.intro st h λd v G1 H1 u1 st1 r1 h'=>?_;obtain⟨d',e3,q⟩:=ofO.ok h';cases d with
 |int j=>have e3:atI ds j=some d':=e3;obtain⟨v',e4,r4⟩:=(h5.mono u1.gg).atI e3;exact⟨l,ws,j,v',rfl,r1.int_inv,.of (u1.hh _ _ h4),e4,q v' G1 H1 (.refl st1.sub) r4⟩
 |_=>cases e3
def pQ(i k:Nat)(c:CF X.K C ks)(hk:k∈ks)(hg:Gl X "len")(hm:X.mg "len"=none)(hi:X.N[i]?=some x:=by rfl)(hv:Vis X.env.scope x:=by first|exact Or.inl rfl|exact Or.inr (Or.inl rfl)|exact Or.inr (Or.inr rfl))(hf:f=di k:=by rfl)(hd:(x==("__debug__":Str))=false:=by decide)(hcd:(x==("__classdict__":Str))=false:=by decide)(hba:attributeBase (.Name x p1) f X.env (eval (.Name x p1) X.env)=eval (.Name x p1) X.env:=by rfl)(he:starEach [.Attribute (.Name x p1) f p2] X.env=(false,eval (.Attribute (.Name x p1) f p2) X.env)::starEach [] X.env:=by rfl):
  PF X (.Call (.Name "len" p3) [.Attribute (.Name x p1) f p2] [] pos) (mz C i k):=λpins s σ H Q I h=>by
 subst hf;refine oZ rf hg hm PySem.boot_len (du (wa (dv hi hv hd hcd) hba) iy he) (by decide) (by decide) he rfl pins s σ H Q I ?_;obtain⟨G,ρ,st,h⟩:=h;obtain⟨m,p,fs,e1,h⟩:=uu h;obtain⟨ds,e2,h⟩:=yh h;obtain⟨dx,vs,l,ws,h1,h2,h3,h4,h5⟩:=st.fldL e1 e2;refine⟨.ref p,h1,p,C,dx,vs,.ref l,rfl,h2,c.cl,(c.na k hk).2,h3,l,ws,rfl,.inl (.of h4),?_⟩;rw[h5.length];exact h _ G H (.refl st.sub) (.int _)
def DW(i k:Nat)(c:CF X.K C ks)(hk:k∈ks)(he:PF X e ga)(hi:X.N[i]?=some x:=by rfl)(hv:Vis X.env.scope x:=by first|exact Or.inl rfl|exact Or.inr (Or.inl rfl)|exact Or.inr (Or.inr rfl))(hf:f=di k:=by rfl)(hd:(x==("__debug__":Str))=false:=by decide)(hcd:(x==("__classdict__":Str))=false:=by decide)(hba:attributeBase (.Name x p1) f X.env (eval (.Name x p1) X.env)=eval (.Name x p1) X.env:=by rfl)(hs1:starEach [e] X.env=(false,eval e X.env)::starEach [] X.env:=by rfl)(hbase:attributeBase (.Attribute (.Name x p1) f p2) "append" X.env (eval (.Attribute (.Name x p1) f p2) X.env)=eval (.Attribute (.Name x p1) f p2) X.env:=by rfl)(hfew:((backTo cp (starEach [e] X.env)).all (λx=>!x.1) && (backToKw cp (keywordEach [] X.env)).all (λx=>x.1.isSome)
 && decide ([e].length+([]:List Keyword).length+(if ([]:List Keyword).isEmpty then 0 else 1)<30))=true:=by rfl)(hline:(ap.endLine==cp.line)=true:=by rfl)(hs:swapsWith (.Call (.Attribute (.Attribute (.Name x p1) f p2) "append" ap) [e] [] cp) none pos.line X.env=pure false:=by rfl):
  PSF X (.Expr (.Call (.Attribute (.Attribute (.Name x p1) f p2) "append" ap) [e] [] cp) pos) (BZ C i k ga):=λG₀ H₀ pins s σ H D I h=>by
 subst hf;refine jp (Cg PySem.F.plainAttrs_list PySem.F.slot_list_append PySem.F.type_list_append mC (wa (dv hi hv hd hcd) hba) (du he iy hs1) hbase hfew hline hs1 rfl) hs pins s σ H D I ?_;obtain⟨G,ρ,sr,h⟩:=h;obtain⟨p,fs,e1,h⟩:=kR h;obtain⟨ds,e2,h⟩:=vU h;obtain⟨dx,vs,l,ws,h1,h2,h3,h4,h5⟩:=sr.e.fldL e1 e2;refine⟨.ref p,h1,p,C,dx,vs,.ref l,rfl,h2,c.cl,(c.na k hk).2,h3,.inl ⟨rfl,ws,.of h4⟩,G,ρ,sr.e,?_⟩;cases q:ga ρ with
 |ok d=>
  rw[q]at h;simp only[R.out]at h;intro v G' H' u r;by_cases hz:ds.length<sizeLine;·rw[if_pos hz]at h;refine⟨l,ws,v,rfl,rfl,u.hh _ _ h4,by rw[h5.length];exact hz,h _ G' _ ?_⟩;exact(sr.ups u).fmut e1 e2 ((h5.mono u.gg).append (.cons r .nil)) (u.hh _ _ h2) h3
  ·rw[if_neg hz]at h;exact h.elim
 |ex C=>rw[q]at h;exact Exx.of sr h
 |no=>rw[q]at h;exact h
def G9(i k j:Nat)(c:CF X.K C ks)(hk:k∈ks)(hN:X.N.Nodup)(hi:X.N[i]?=some x:=by rfl)(hj:X.N[j]?=some y:=by rfl)(hv:Vis X.env.scope x:=by first|exact Or.inl rfl|exact Or.inr (Or.inl rfl)|exact Or.inr (Or.inr rfl))(hf:f=di k:=by rfl)(hx:Loc X.env.scope y:=by first|exact Or.inl rfl|exact Or.inr rfl)(hfn:X.fn y=true\/X.env.scope.names.lookup y=some .local:=by first|exact .inl rfl|exact .inr rfl)(hd:(x==("__debug__":Str))=false:=by decide)(hcd:(x==("__classdict__":Str))=false:=by decide)(hba:attributeBase (.Name x p1) f X.env (eval (.Name x p1) X.env)=eval (.Name x p1) X.env:=by rfl)(hbase:attributeBase (.Attribute (.Name x p1) f p2) "pop" X.env (eval (.Attribute (.Name x p1) f p2) X.env)=eval (.Attribute (.Name x p1) f p2) X.env:=by rfl)(hline:(ap.endLine==cp.line)=true:=by rfl)(hs:swapsWithSole [.Name y py] (.Call (.Attribute (.Attribute (.Name x p1) f p2) "pop" ap) [] [] cp) pos.line X.env=pure false:=by rfl)(hw:swappedStores [.Name y py] (.Call (.Attribute (.Attribute (.Name x p1) f p2) "pop" ap) [] [] cp) X.env=pure none:=by rfl):
  PSF X (.Assign [.Name y py] (.Call (.Attribute (.Attribute (.Name x p1) f p2) "pop" ap) [] [] cp) pos) (BE C i k j):=λG₀ H₀ pins s σ H D I h=>by
 subst hf;refine jf (Hy PySem.F.plainAttrs_list PySem.F.slot_list_pop PySem.F.type_list_pop HW (wa (dv hi hv hd hcd) hba) hbase hline) (fR (i:=j) hN hj hx hfn) hs hw rfl pins s σ H D I ?_;obtain⟨G,ρ,sr,h⟩:=h;obtain⟨p,fs,e1,h⟩:=kR h;obtain⟨ds,e2,h⟩:=vU h;obtain⟨dx,vs,l,ws,h1,h2,h3,h4,h5⟩:=sr.e.fldL e1 e2;cases q:ds.getLast? with
 |none=>rw[q]at h;exact h.elim
 |some d=>
  rw[q]at h;dsimp only at h;by_cases nij:i≠j
  ·rw[if_pos nij]at h;rw[List.getLast?_eq_getElem?]at q;obtain⟨v,ev,rv⟩:=h5.get q;have hl:=h5.length;refine⟨.ref p,h1,p,C,dx,vs,.ref l,rfl,h2,c.cl,(c.na k hk).2,h3,.inl ⟨rfl,ws,.of h4⟩,l,ws,v,rfl,rfl,h4,by rw[hl];exact ev,?_⟩;have rd:Reps X.K G ws.dropLast ds.dropLast:=by rw[List.dropLast_eq_take,List.dropLast_eq_take,hl];exact h5.take _
   exact h _ G _ ((sr.fmut e1 e2 rd h2 h3).set rv j)
  ·rw[if_neg nij]at h;exact h.elim
def zD(i k:Nat)(c:CF X.K C ks)(hk:k∈ks)(he:PFL X e gl)(hi:X.N[i]?=some x:=by rfl)(hv:Vis X.env.scope x:=by first|exact Or.inl rfl|exact Or.inr (Or.inl rfl)|exact Or.inr (Or.inr rfl))(hf:f=di k:=by rfl)(hd:(x==("__debug__":Str))=false:=by decide)(hcd:(x==("__classdict__":Str))=false:=by decide)(hs:swapsWith e (some (.Attribute (.Name x p1) f p2)) pos.line X.env=pure false:=by rfl):
  PSF X (.Assign [.Attribute (.Name x p1) f p2] e pos) (zF C i k gl):=λG₀ H₀ pins s σ H D I h=>by
 subst hf;refine Jy (dv hi hv hd hcd) he hs pins s σ H D I ?_;obtain⟨G,ρ,sr,h⟩:=h;obtain⟨p,fs,e1,h⟩:=kR h;refine⟨G,ρ,sr.e,?_⟩;cases q:gl ρ with
 |ok ds=>
  rw[q]at h;simp only[R.out]at h;intro l us G' H' u hl r;obtain⟨h1,ow,ob0⟩:=sr.e.obs i true C p fs e1;obtain⟨dx,vs,g1,g2,g3,g4,g5,g6,g7,g8⟩:=ob0.ins c.ne;by_cases hz:fs.length<900;·rw[if_pos hz]at h;have hp:=u.hh _ _ g1;refine⟨.ref p,h1,p,C,dx,vs,rfl,?_,c.cl,(c.na k hk).2,by rw[g8.len];omega,h _ G' _ ((sr.ups u).fputL e1 (c.na k hk).1 hl r hp)⟩;rw[aH (λz=>by rw[z,hl]at hp;cases hp)];exact hp
  ·rw[if_neg hz]at h;exact h.elim
 |ex C=>rw[q]at h;exact Exx.of sr h
 |no=>rw[q]at h;exact h
def DH(he:PF X e ga):PSF X (.Return (some e) pos) (CA ga):=λG₀ H₀ pins s σ H D I h=>by
 refine Af he pins s σ H D I ?_;obtain⟨G,ρ,sr,h⟩:=h;have h:jH X G₀ H₀ D ((ga ρ).out ρ λd=>.re d ρ):=h;refine⟨G,ρ,sr.e,?_⟩;cases q:ga ρ with
 |ok d=>rw[q]at h;exact λv G' H' u r=>h v σ G' H' (sr.ups u) r
 |ex C=>rw[q]at h;exact Exx.of sr h
 |no=>rw[q]at h;exact h
end
structure MCallee(P:Program)(w:World)(K:PySem.W.Frag)(mg:Str->Option Value)(base:Heap)(C:Addr)(mn:Str)(k n:Nat)(F:MF):Prop where
 ex:∃f fd ps,FnM P w K mg base k f fd ps C F/\Meth K C mn f/\Binds K fd ps []/\ps.length=n+1
def MCallee.mono{w:World}{K:PySem.W.Frag}{mg:Str->Option Value}{base:Heap}{mn:Str}{n:Nat}(c:MCallee P w K mg base C mn k n F)(k':Nat)(h:k<=k':=by decide):MCallee P w K mg base C mn k' n F:=by obtain⟨f,fd,ps,M,hm,hb,e⟩:=c.ex;exact⟨f,fd,ps,{ M with run:=λA outer s H args us vs Q E hr=>M.run A outer s H args us vs Q E (hr.mono h) },hm,hb,e⟩
def FdsAt.none{K:PySem.W.Frag}{H₀:Hp}{m:Bool}{mn:Str}(hn:∀k,k<fnames.length->(mn==di k)=false):∀{fs:List (Nat×Fd)}{vs:List (Str×V)},FdsAt K H₀ G H ow i m fs vs->vs.lookup mn=Option.none
 |_,_,.nil=>rfl
 |_,_,.cons (k:=a) h nk r t=>by simp only[List.lookup_cons,hn a h];exact FdsAt.none hn t
section
variable{n:Nat}{fs:List (Nat×Fd)}{Q:VK}
def lJ(M:FnM X.prog X.w X.K X.mg X.base k f fd ps C F)(hr:Room k X.A)(hb:Binds X.K fd ps [])(hl:ps.length=n+1)(I:Inv X pins σ H s)(r:Vals vs us)(rp:Reps X.K G vs ds)(hn:ds.length=n)(sub:Same G H)(og:∀a t,ow a=some t->G a=none)(ob:ObjAt X.K (λ_=>none) G H ow 0 true C p fs)(h:match F fs ds with
 |.ok d fs'=>∀v G' H' ow',Up G (hid H ow) G' H'->ObjAt X.K (hid H ow) G' H' ow' 0 true C p fs'->Rep X.K G' v d->Q v H'
 |.rd d=>∀v G' H',Up G H G' H'->Rep X.K G' v d->Q v H'
 |.ex C'=>Exx X σ G H C'
 |.no=>False):wpAny (model X.prog X.w) X.A (call (.ref f) (.ref p::us)) (EP X pins σ Q) X.xe s:=by
 have hvl:(V.ref p::vs).length=ps.length:=by rw[hl,List.length_cons,rp.length,hn]
 have hul:(Value.ref p::us++[]).length=ps.length:=by rw[List.append_nil,List.length_cons,<- r.length,<- List.length_cons (a:=V.ref p)];exact hvl
 have hbb:=hb s (.ref p::us) I.kIn hul;rw[List.append_nil]at hbb;refine wpAny_call (codeAny_mono (M.run X.A X.stack s H ⟨.ref p::us,[]⟩ (.ref p::us) (.ref p::vs) Q (λc _ H'=>∃C G',c=.ref C/\Up G H G' H'/\Exx X σ G H C) hr I.env0 hbb (.cons rfl r) ⟨hvl,G,p,vs,ds,fs,ow,rfl,rp,sub,og,ob,?_⟩) λr' s' hq=>?_)
 ·cases q:F fs ds with
  |ok d fs'=>rw[q]at h;exact h
  |rd d=>rw[q]at h;exact h
  |ex C'=>rw[q]at h;exact λG' H' u=>⟨C',G',rfl,u,h⟩
  |no=>rw[q]at h;exact h.elim
 ·cases r' with
  |error e'=>obtain⟨a,C,H',rfl,fl,C',G',ec,u,q⟩:=hq;cases ec;exact q _ _ ⟨G,H,.refl sub,pins,s,a,rfl,I,.inr (.inl ⟨G',H',fl,u⟩)⟩
  |ok fl=>
   cases fl with
   |ret u=>exact I.after hq
   |_=>exact False.elim hq
end
noncomputable def RM.read:RM->R D
 |.rd d=>.ok d
 |.ex C=>.ex C
 |_=>.no
noncomputable def Hf(C:Addr)(i n:Nat)(F:MF)(gl:Ev->R (List D)):Ev->R D:=λρ=>oH C ρ i>>=λfs=>gl ρ>>=λds=>if ds.length=n then (F fs ds).read else .no
noncomputable def bZ(C:Addr)(i:Nat)(F:MF):Ev->R D:=λρ=>oH C ρ i>>=λfs=>(F fs []).read
noncomputable def RM.out(r:RM)(C p:Addr)(i:Nat)(ρ:Ev):O:=match r with
 |.ok _ fs'=>.nx (ρ.set i (some (.obj true C p fs')))
 |.rd _=>.nx ρ
 |.ex E=>.ex E ρ
 |.no=>.no
noncomputable def rh(C:Addr)(i n:Nat)(F:MF)(gl:Ev->R (List D)):Ev->O:=λρ=>(pS C ρ i).out ρ λo=>(gl ρ).out ρ λds=>if ds.length=n then (F o.2 ds).out C o.1 i ρ else .no
noncomputable def rQ(C:Addr)(i:Nat)(F:MF):Ev->O:=λρ=>(pS C ρ i).out ρ λo=>(F o.2 []).out C o.1 i ρ
section
variable{e:Expr}{mn:Str}{n:Nat}{p1 ap ep:Pos}
def cP{pl:Sem Bool}(i:Nat)(c:CF X.K C ks)(m:MCallee X.prog X.w X.K X.mg X.base C mn k 0 F)(hr:Room k X.A)(hi:X.N[i]?=some x:=by rfl)(hv:Vis X.env.scope x:=by first|exact Or.inl rfl|exact Or.inr (Or.inl rfl)|exact Or.inr (Or.inr rfl))(hd:(x==("__debug__":Str))=false:=by decide)(hcd:(x==("__classdict__":Str))=false:=by decide)(hmn:∀k,k<fnames.length->(mn==di k)=false:=by decide)(ht:eval (.Call (.Attribute (.Name x p1) mn ap) [] [] pos) X.env=(do
 let ov <- eval (.Name x p1) X.env
 standAt ap.atName
 let (f,first) <- holding [ov] (getMethod ov mn pl)
 callWith pos f first (backTo pos (starEach [] X.env)) (backToKw pos (keywordEach [] X.env))):=by rfl):
  PF X (.Call (.Attribute (.Name x p1) mn ap) [] [] pos) (bZ C i F):=λpins s σ H Q I h=>by
 obtain⟨f,fd,ps,M,hm,hb,hl⟩:=m.ex;obtain⟨G,ρ,st,h⟩:=h;obtain⟨mm,p,fs,e1,h⟩:=uu h;obtain⟨h1,ow1,ob1⟩:=st.obs i mm C p fs e1;have v:PE X (.Name x p1) (DE i):=dv hi hv hd hcd;refine PySem.W.methodCall_KW (pl:=pl) (thn (v pins s σ H (λu H'=>u=.ref p/\H'=H) I ⟨_,h1,rfl,rfl⟩) λu s1 ⟨v',H',I',rv,ev,eh⟩=>?_) ht;subst ev eh;obtain rfl:u=Value.ref p:=rv;obtain⟨dx,vs,g1,g2,g3,g4,g5,g6,g7,g8⟩:=ob1.ins c.ne;refine iV I' g1 c.cl hm (g8.none hmn) ?_;refine PySem.W.callWith_K0 (first:=[.ref p]) I'.kIn hm.kp (lJ (us:=[]) M hr hb hl I' .nil .nil rfl st.sub (λa t q=>(iQ q).2.2.1) ob1.cut ?_);cases q:F fs []with
 |ok d fs'=>rw[q]at h;exact h.elim
 |rd d=>rw[q]at h;exact h
 |ex C'=>rw[q]at h;exact h
 |no=>rw[q]at h;exact h.elim
def qz{pl:Sem Bool}(i:Nat)(c:CF X.K C ks)(m:MCallee X.prog X.w X.K X.mg X.base C mn k n F)(hr:Room k X.A)(ha:PFA X (e::es) gl)(hi:X.N[i]?=some x:=by rfl)(hv:Vis X.env.scope x:=by first|exact Or.inl rfl|exact Or.inr (Or.inl rfl)|exact Or.inr (Or.inr rfl))(hd:(x==("__debug__":Str))=false:=by decide)(hcd:(x==("__classdict__":Str))=false:=by decide)(hmn:∀k,k<fnames.length->(mn==di k)=false:=by decide)(hst:starEach (e::es) X.env=(false,eval e X.env)::starEach es X.env:=by rfl)(hpl:(backTo pos (starEach es X.env)).any (·.1)=false:=by rfl)(hs:swapsWith (.Call (.Attribute (.Name x p1) mn ap) (e::es) [] pos) none ep.line X.env=pure false:=by rfl)(ht:eval (.Call (.Attribute (.Name x p1) mn ap) (e::es) [] pos) X.env=(do
 let ov <- eval (.Name x p1) X.env
 standAt ap.atName
 let (f,first) <- holding [ov] (getMethod ov mn pl)
 callWith pos f first (backTo pos (starEach (e::es) X.env)) (backToKw pos (keywordEach [] X.env))):=by rfl):
  PSF X (.Expr (.Call (.Attribute (.Name x p1) mn ap) (e::es) [] pos) ep) (rh C i n F gl):=λG₀ H₀ pins s σ H D I h=>by
 obtain⟨f,fd,ps,M,hm,hb,hl⟩:=m.ex;obtain⟨G,ρ,sr,h⟩:=h;obtain⟨p,fs,e1,h⟩:=kR h;obtain⟨h1,_,_⟩:=sr.e.obs i true C p fs e1;have v:PE X (.Name x p1) (DE i):=dv hi hv hd hcd;have pe:PE X (.Call (.Attribute (.Name x p1) mn ap) (e::es) [] pos) (λσ' H' Q=>σ'=σ/\H'=H/\∀v H2,D.nx σ H2->Q v H2):=by
  rintro pn2 sh2 σ' H' Q J ⟨rfl,rfl,hQ⟩;refine PySem.W.methodCall_KW (pl:=pl) (thn (v pn2 sh2 σ' H' (λu H2=>u=.ref p/\H2=H') J ⟨_,h1,rfl,rfl⟩) λu s1 ⟨v',H2,I',rv,ev,eh⟩=>?_) ht;subst ev eh;obtain rfl:u=Value.ref p:=rv;obtain⟨_,ow,ob0⟩:=sr.e.obs i true C p fs e1;obtain⟨dx,vs,g1,g2,g3,g4,g5,g6,g7,g8⟩:=ob0.ins c.ne;refine iV I' g1 c.cl hm (g8.none hmn) ?_;have t:tAF X gl σ' H2 (λvs H1=>∃G1 ds,Up G H2 G1 H1/\Reps X.K G1 vs ds/\ds.length=n/\jH X G₀ H₀ D ((F fs ds).out C p i ρ)):=by
   refine⟨G,ρ,sr.e,?_⟩;cases q:gl ρ with
   |ok ds=>
    rw[q]at h;simp only[R.out]at h;intro vs G1 H1 u r;by_cases hz:ds.length=n;·rw[if_pos hz]at h;exact⟨G1,ds,u,r,hz,h⟩
    ·rw[if_neg hz]at h;exact h.elim
   |ex C=>rw[q]at h;exact Exx.of sr h
   |no=>rw[q]at h;exact h
  refine PySem.W.callWith_K (first:=[.ref p]) (h₀:=X.base) J.ok.mod.kin hm.kp (thn (ha pos pn2 s1 σ' H2 _ I' t) λus s2 q=>⟨?_,?_⟩) hst hpl;·obtain⟨vs,H1,I1,r,_⟩:=q;exact I1.kIn
  obtain⟨vs,H1,I1,r,G1,ds,u1,rp,hz,h2⟩:=q;have sr1:=sr.ups u1;obtain⟨ow1,o1,o2⟩:=sr1.ob;refine lJ M hr hb hl I1 r rp hz sr1.e.sub (λa t q=>(iQ q).2.2.1) (o2 i true C p fs e1).2.cut ?_;cases q:F fs ds with
  |ok d fs'=>rw[q]at h2;exact λv G' H' ow' u ob _=>hQ v H' (h2 _ G' H' (sr1.meth e1 o1 o2 u ob))
  |rd d=>rw[q]at h2;exact λv G' H' u _=>hQ v H' (h2 _ G' H' (sr1.ups u))
  |ex C'=>rw[q]at h2;exact Exx.of sr1 h2
  |no=>rw[q]at h2;exact h2.elim
 exact jp pe hs pins s σ H D I ⟨rfl,rfl,λv H2 q=>q⟩
def BX{pl:Sem Bool}(i:Nat)(c:CF X.K C ks)(m:MCallee X.prog X.w X.K X.mg X.base C mn k 0 F)(hr:Room k X.A)(hi:X.N[i]?=some x:=by rfl)(hv:Vis X.env.scope x:=by first|exact Or.inl rfl|exact Or.inr (Or.inl rfl)|exact Or.inr (Or.inr rfl))(hd:(x==("__debug__":Str))=false:=by decide)(hcd:(x==("__classdict__":Str))=false:=by decide)(hmn:∀k,k<fnames.length->(mn==di k)=false:=by decide)(hs:swapsWith (.Call (.Attribute (.Name x p1) mn ap) [] [] pos) none ep.line X.env=pure false:=by rfl)(ht:eval (.Call (.Attribute (.Name x p1) mn ap) [] [] pos) X.env=(do
 let ov <- eval (.Name x p1) X.env
 standAt ap.atName
 let (f,first) <- holding [ov] (getMethod ov mn pl)
 callWith pos f first (backTo pos (starEach [] X.env)) (backToKw pos (keywordEach [] X.env))):=by rfl):
  PSF X (.Expr (.Call (.Attribute (.Name x p1) mn ap) [] [] pos) ep) (rQ C i F):=λG₀ H₀ pins s σ H D I h=>by
 obtain⟨f,fd,ps,M,hm,hb,hl⟩:=m.ex;obtain⟨G,ρ,sr,h⟩:=h;obtain⟨p,fs,e1,h⟩:=kR h;have h:jH X G₀ H₀ D ((F fs []).out C p i ρ):=h;obtain⟨h1,_,_⟩:=sr.e.obs i true C p fs e1;have v:PE X (.Name x p1) (DE i):=dv hi hv hd hcd;have pe:PE X (.Call (.Attribute (.Name x p1) mn ap) [] [] pos) (λσ' H' Q=>σ'=σ/\H'=H/\∀v H2,D.nx σ H2->Q v H2):=by
  rintro pn2 sh2 σ' H' Q J ⟨rfl,rfl,hQ⟩;refine PySem.W.methodCall_KW (pl:=pl) (thn (v pn2 sh2 σ' H' (λu H2=>u=.ref p/\H2=H') J ⟨_,h1,rfl,rfl⟩) λu s1 ⟨v',H2,I',rv,ev,eh⟩=>?_) ht;subst ev eh;obtain rfl:u=Value.ref p:=rv;obtain⟨ow1,o1,o2⟩:=sr.ob;obtain⟨dx,vs,g1,g2,g3,g4,g5,g6,g7,g8⟩:=(o2 i true C p fs e1).2.ins c.ne;refine iV I' g1 c.cl hm (g8.none hmn) ?_;refine PySem.W.callWith_K0 (first:=[.ref p]) I'.kIn hm.kp (lJ (us:=[]) M hr hb hl I' .nil .nil rfl sr.e.sub (λa t q=>(iQ q).2.2.1) (o2 i true C p fs e1).2.cut ?_);cases q:F fs []with
  |ok d fs'=>rw[q]at h;exact λv G' H' ow' u ob _=>hQ v H' (h _ G' H' (sr.meth e1 o1 o2 u ob))
  |rd d=>rw[q]at h;exact λv G' H' u _=>hQ v H' (h _ G' H' (sr.ups u))
  |ex C'=>rw[q]at h;exact Exx.of sr h
  |no=>rw[q]at h;exact h.elim
 exact jp pe hs pins s σ H D I ⟨rfl,rfl,λv H2 q=>q⟩
end
structure MkC(P:Program)(w:World)(K:PySem.W.Frag)(mg:Str->Option Value)(base:Heap)(C:Addr)(cn:Str)(k n:Nat)(F:MF):Prop where
 ex:∃f fd ps,FnM P w K mg base k f fd ps C F/\Mk K C f/\mg cn=some (.ref C)/\Binds K fd ps []/\ps.length=n+1
 ne:C≠DC
section
variable{n:Nat}{Q:VK}
def CB(hC:C≠DC)(M:Mk X.K C f)(Fi:FnM X.prog X.w X.K X.mg X.base k f fd ps C F)(hr:Room (k+1) X.A)(hb:Binds X.K fd ps [])(hl:ps.length=n+1)(I:Inv X pins σ H s)(r:Vals vs us)(rp:Reps X.K G vs ds)(hn:ds.length=n)(sub:Same G H)(h:match F [] ds with
 |.ok d fs'=>d=.non/\∀x G' H' ow',Up G H G' H'->ObjAt X.K H G' H' ow' 0 true C x fs'->Q (.ref x) H'
 |.ex C'=>Exx X σ G H C'
 |_=>False):wpAny (model X.prog X.w) X.A (call (.ref C) us) (EP X pins σ Q) X.xe s:=by
 have I2:=Inv.made (C:=C) I;generalize hx:s.heap.objs.size+1=x at I2;generalize hd:s.heap.objs.size=dx at I2;have fx:H x=none:=I.hok.fresh (by rw[<- hx];exact Nat.le_succ _);have fd':H dx=none:=I.hok.fresh (by rw[<- hd];exact Nat.le_refl _);have ne:dx≠x:=by rw[<- hx,<- hd];exact Nat.ne_of_lt (Nat.lt_succ_self _)
 have gx:G x=none:=sub.free fx;have gd:G dx=none:=sub.free fd';have hh:Same H (upd (upd H dx (.own x)) x (.ins C dx [])):=λa o e=>by rw[aH (aP e fx),aH (aP e fd')];exact e
 have sub2:Same G (upd (upd H dx (.own x)) x (.ins C dx [])):=sub.trans hh;have up2:Up G H G (upd (upd H dx (.own x)) x (.ins C dx [])):=⟨sub2,.refl _,hh,λ_ _ e=>.inl e⟩
 let ow:ko:=λa=>if a=x\/a=dx then some (0,0)else none;have og:∀a t,ow a=some t->G a=none:=λa t q=>by
  by_cases z:a=x\/a=dx
  ·rcases z with z|z;·rw[z];exact gx
   ·rw[z];exact gd
  ·have:ow a=none:=if_neg z;rw[this]at q;cases q
 have ob:ObjAt X.K (λ_=>none) G (upd (upd H dx (.own x)) x (.ins C dx [])) ow 0 true C x []:=
  .inl ⟨hC,dx,[],aS,by rw[aH ne,aS],gx,gd,λ_=>⟨rfl,rfl⟩,if_pos (.inl rfl),if_pos (.inr rfl),.nil⟩;have eh:hid (upd (upd H dx (.own x)) x (.ins C dx [])) ow=H:=by
  funext a
  by_cases z:a=x\/a=dx
  ·rw[ke (t:=(0,0)) (if_pos z)];rcases z with z|z;·rw[z];exact fx.symm
   ·rw[z];exact fd'.symm
  ·rw[ik (if_neg z),aH (λq=>z (.inl q)),aH (λq=>z (.inr q))]
 have hvl:(V.ref x::vs).length=ps.length:=by rw[hl,List.length_cons,rp.length,hn]
 have hul:(Value.ref x::us++[]).length=ps.length:=by rw[List.append_nil,List.length_cons,<- r.length,<- List.length_cons (a:=V.ref x)];exact hvl
 refine wpAny_call (C9 (f:=f) I.kIn M.makes M.init (beq_iff_eq.mp M.fn) ?_);rw[hx,hd];have hbb:=hb _ (.ref x::us) I2.kIn hul;rw[List.append_nil]at hbb;refine codeAny_mono (Fi.run _ X.stack _ _ ⟨Value.ref x::us,[]⟩ (Value.ref x::us) (V.ref x::vs) (λv H2=>v=.non/\Q (.ref x) H2) (λc _ H'=>∃C' G',c=.ref C'/\Up G (upd (upd H dx (.own x)) x (.ins C dx [])) G' H'/\Exx X σ G H C') (hr.make C us [])
  (I2.env0.make C us []) hbb (.cons rfl r) ⟨hvl,G,x,vs,ds,[],ow,rfl,rp,sub2,og,ob,?_⟩) λr' s' hq=>?_
 ·cases q:F [] ds with
  |ok d fs'=>rw[q]at h;intro v G' H' ow' u o rv;rw[eh]at u o;obtain⟨rfl,h⟩:=h;exact⟨rv.non_inv,h x G' H' ow' u o⟩
  |rd d=>rw[q]at h;exact h.elim
  |ex C'=>rw[q]at h;exact λG' H' u=>⟨C',G',rfl,u,h⟩
  |no=>rw[q]at h;exact h.elim
 ·cases r' with
  |error e'=>obtain⟨a,C',H',rfl,fl,C'',G',ec,u,q⟩:=hq;cases ec;exact q _ _ ⟨G,_,up2,pins,_,a,rfl,I2,.inr (.inl ⟨G',H',fl,u⟩)⟩
  |ok fl=>
   cases fl with
   |ret u=>obtain⟨v,H',I3,rv,ev,q3⟩:=I2.after hq;subst ev;exact⟨rv,⟨V.ref x,H',I3,rfl,q3⟩⟩
   |_=>exact False.elim hq
end
noncomputable def A5(F:MF)(n:Nat)(ds:List D):R (List (Nat×Fd)):=if ds.length=n then (match F [] ds with
 |.ok .non fs'=>.ok fs'
 |.ex C=>.ex C
 |_=>.no)else .no
noncomputable def NK(X:Cx)(C:Addr)(F:MF)(n:Nat)(gl:Ev->R (List D)):TE:=λσ H Q=>∃G ρ,StE X.K G H σ ρ/\(gl ρ>>=A5 F n).post (λfs'=>∀x G' H' ow',Up G H G' H'->ObjAt X.K H G' H' ow' 0 true C x fs'->Q (.ref x) H') (Exx X σ G H)
section
variable{e:Expr}{cn:Str}{n:Nat}{p:Pos}
def GC(c:MkC X.prog X.w X.K X.mg X.base C cn k n F)(hr:Room (k+1) X.A)(ha:PFA X (e::es) gl)(hg:Gl X cn:=by rfl)(hdb:(cn==("__debug__":Str))=false:=by decide)(he:starEach (e::es) X.env=(false,eval e X.env)::starEach es X.env:=by rfl)(hpl:(backTo pos (starEach es X.env)).any (·.1)=false:=by rfl):PE X (.Call (.Name cn p) (e::es) [] pos) (NK X C F n gl):=by
 intro pins s σ H Q I h;obtain⟨f,fd,ps,M,mk,hm,hb,hl⟩:=c.ex;obtain⟨G,ρ,st,h⟩:=h;refine wpAny_Call_Name_kw (mv I hg hm ?_ hdb);have t:tAF X gl σ H (λvs H1=>∃G1 ds,Up G H G1 H1/\Reps X.K G1 vs ds/\(A5 F n ds).post (λfs'=>∀x G' H' ow',Up G H G' H'->ObjAt X.K H G' H' ow' 0 true C x fs'->Q (.ref x) H') (Exx X σ G H)):=by
  refine⟨G,ρ,st,?_⟩;cases q:gl ρ with
  |ok ds=>rw[q]at h;exact λvs G1 H1 u r=>⟨G1,ds,u,r,h⟩
  |ex C=>rw[q]at h;exact h
  |no=>rw[q]at h;exact h
 refine PySem.W.callWith_K (h₀:=X.base) I.ok.mod.kin mk.kp (thn (ha pos pins s σ H _ I t) λus s1 q=>⟨?_,?_⟩) he hpl;·obtain⟨vs,H1,I1,r,_⟩:=q;exact I1.kIn
 obtain⟨vs,H1,I1,r,G1,ds,u1,rp,h1⟩:=q;unfold A5 at h1;by_cases hz:ds.length=n
 ·rw[if_pos hz]at h1;refine CB c.ne mk M hr hb hl I1 r rp hz u1.sub ?_;cases q:F [] ds with
  |ok d fs'=>
   rw[q]at h1;cases d with
   |non=>refine⟨rfl,λx G' H' ow' u o=>h1 x G' H' ow' (u1.trans u) (o.keep ⟨λ_ _ _ _ e=>e,.refl _,λ_ _ _ _ _ n=>n,λ_ _ _ e _=>e,λa o _ _ z=>u1.hh.free z⟩)⟩
   |_=>exact h1.elim
  |rd d=>rw[q]at h1;exact h1.elim
  |ex C'=>rw[q]at h1;exact Exx.up u1 h1
  |no=>rw[q]at h1;exact h1.elim
 ·rw[if_neg hz]at h1;exact h1.elim
end
def StR.setObj{K:PySem.W.Frag}{H₀ G':Hp}{x:Addr}{fs:List (Nat×Fd)}{ow':ko}(s:StR K G₀ H₀ G H σ ρ)(u:Up G H G' H')(ob:ObjAt K H G' H' ow' 0 true C x fs)(i:Nat):StR K G₀ H₀ G' H' (σ.set i (some (.ref x))) (ρ.set i (some (.obj true C x fs))):=by
 have get:∀(j:Nat) y,(ρ.set i (some (.obj true C x fs)))[j]?=some (some y)->(j=i/\y=.obj true C x fs/\i<σ.length)\/(j≠i/\ρ[j]?=some (some y)/\(σ.set i (some (.ref x)))[j]?=σ[j]?):=λj y h=>by
  by_cases e:i=j
  ·subst e;have hl:i<ρ.length:=by have:=(List.getElem?_eq_some_iff.mp h).1;simpa using this
   rw[List.getElem?_set_self hl]at h;exact .inl ⟨rfl,by injection (Option.some.inj h)with q;exact q.symm,by rw[s.e.len];exact hl⟩
  ·rw[List.getElem?_set_ne e]at h;exact .inr ⟨λz=>e z.symm,h,List.getElem?_set_ne e⟩
 have s1:=s.ups u;have ob':ObSt K H₀ G' H' (σ.set i (some (.ref x))) (ρ.set i (some (.obj true C x fs))):=by
  obtain⟨ow,o1,o2⟩:=s.ob;refine⟨λa=>open Classical in if H a=none then um 0 i ow' a else ow a,λj ds l h1 h2=>?_,λj m' C' p' fs' h1=>?_⟩
  ·rcases get j _ h1 with⟨_,z,_⟩|⟨nj,f1,f2⟩;·cases z
   ·rw[f2]at h2;obtain⟨l2,vs,q1,q2,_⟩:=s.own j ds f1;rw[h2]at q1;cases q1;exact(if_neg (by rw[q2];simp)).trans (o1 j ds l f1 h2)
  ·rcases get j _ h1 with⟨rfl,z,hj⟩|⟨nj,f1,f2⟩;·cases z;exact⟨List.getElem?_set_self hj,ob.newtag (λa t q n=>(if_pos n).trans (pi q)) λa n=>s.up.hh.free n⟩
   ·rw[f2];have ku:ObKeep H₀ H₀ G H G' H' ow ow j:=.up u;exact⟨(o2 j m' C' p' fs' f1).1,(o2 j m' C' p' fs' f1).2.keep ⟨ku.hh,ku.gg,ku.gn,λa t o q1 q2=>(if_neg (by rw[q2];simp)).trans q1,ku.h0⟩⟩
 refine⟨⟨s1.e.sub,by simp[s1.e.len],λj d h=>?_,ob'.rd⟩,s1.sub0,s1.up,λj ds h=>?_,λj k ds es l q1 q2 q3 q4=>?_,ob'⟩
 ·rcases get j _ h with⟨_,z,_⟩|⟨_,f1,f2⟩;·cases z
  ·rw[f2];exact s1.e.val j d f1
 ·rcases get j _ h with⟨_,z,_⟩|⟨nj,f1,f2⟩;·cases z
  ·rw[f2];exact s1.own j ds f1
 ·rcases get j _ q1 with⟨_,z,_⟩|⟨nj,f1,f2⟩;·cases z
  ·rcases get k _ q2 with⟨_,z,_⟩|⟨nk,f3,f4⟩;·cases z
   ·exact s1.inj j k ds es l f1 f3 (f2▸q3) (f4▸q4)
noncomputable def AV{α:Type}(X:Cx)(sts:List Stmt)(g:α->Ev->O):Prop:=∀G₀ H₀,PSs X sts (λD σ H=>∃G ρ,StR X.K G₀ H₀ G H σ ρ/\∀q,jH X G₀ H₀ D (g q ρ))
section
variable{dj:List Stmt}{g1:Ev->O}{gs:Ev->O}{α:Type}{g2:α->Ev->O}{e:Expr}{gl':Ev->R (List D)}{cn:Str}{n:Nat}{p:Pos}
noncomputable def yN(g:Ev->O):Unit->Ev->O:=λ_=>g
noncomputable def zk(g1:Ev->O)(g2:α->Ev->O):α->Ev->O:=λq ρ=>(g1 ρ).seq (g2 q)
def uE(h:oM X dj gs):AV X dj (yN gs):=λG₀ H₀ pins s σ H D I ⟨G,ρ,sr,q⟩=>h G₀ H₀ pins s σ H D I ⟨G,ρ,sr,q ()⟩
def uh[Inhabited α](h1:PSF X st g1)(h2:AV X dj g2):AV X (st::dj) (zk g1 g2):=λG₀ H₀ pins s σ H D I h=>by
 refine jN (h1 G₀ H₀) (h2 G₀ H₀) pins s σ H D I ?_;obtain⟨G,ρ,sr,h⟩:=h;have h:∀q,jH X G₀ H₀ D ((g1 ρ).seq (g2 q)):=h;refine⟨G,ρ,sr,?_⟩;cases q:g1 ρ with
 |nx ρ'=>rw[q]at h;exact λσ' G' H' sr'=>⟨G',ρ',sr',h⟩
 |rt d=>rw[q]at h;exact h default
 |re d ρ'=>rw[q]at h;exact h default
 |bk ρ'=>rw[q]at h;exact h default
 |ct ρ'=>rw[q]at h;exact h default
 |ex C ρ'=>rw[q]at h;exact h default
 |no=>rw[q]at h;exact h default
end
def Fun.okA{w:World}{K:PySem.W.Frag}{mg:Str->Option Value}{base:Heap}{N:List Str}{α:Type}(F:Fun K x qual st f fd)(S:FnScope N ps (aq st)){g:α->Ev->O}(hg:∀ds,ds.length=ps.length->gr ds=.no\/∀q,aD (g q (aC N.length ds))=gr ds)(hbody:∀(cdv:Value)(A:Around)(outer:List Env)(s:Shared)(H:Hp)(E:XK),Room k (A.deeper (envOfC qual (aq st) s.heap.objs.size f cdv))->AV (fU (CXo P w) P w K mg base N qual (aq st) f cdv A outer s H E) (bb st) g):
  FnF P w K mg base (k+1) f fd ps gr:=by
 obtain⟨oc,od,kV,doc,pm,an,cdv,ct,osl,rfl,lk,hcd⟩:=F.ex;refine CO lk hcd S (λvs H Q E h=>h.1) λA outer s H vs Q E hr hsp=>?_;obtain⟨hl,G,ds,sub,r,h⟩:=hsp;refine⟨_,hbody cdv A outer s H E hr G H,G,aC N.length ds,qc sub r,λq0=>?_⟩;rcases hg ds (by rw[<- r.length];exact hl)with z|z;·rw[z]at h;exact h.elim
 ·rw[<- z q0]at h;cases q:g q0 (aC N.length ds)with
  |nx ρ=>rw[q]at h;exact λσ G' H' sr=>h .non G' H' sr.up .non
  |rt d=>rw[q]at h;exact λv G' H' u rv=>h v G' H' u rv
  |re d ρ=>rw[q]at h;exact λv σ G' H' sr rv=>h v G' H' sr.up rv
  |bk ρ=>rw[q]at h;exact h.elim
  |ct ρ=>rw[q]at h;exact h.elim
  |ex C ρ=>rw[q]at h;exact λe s' fl=>lP fl h
  |no=>rw[q]at h;exact h.elim
noncomputable def Bv(X:Cx)(G₀ H₀:Hp)(σ:St)(Q:VK)(o:O):Prop:=match o with
 |.re d ρ=>∀v G H,StR X.K G₀ H₀ G H σ ρ->Rep X.K G v d->Q v H
 |.ex C ρ=>∀e s',FlyS X G₀ H₀ ρ C e s'->X.xe e s'
 |_=>False
noncomputable def tX(X:Cx)(G₀ H₀:Hp)(g:Ev->O):TE:=λσ H Q=>∃G ρ,StR X.K G₀ H₀ G H σ ρ/\Bv X G₀ H₀ σ Q (g ρ)
noncomputable def PFX(X:Cx)(e:Expr)(g:Ev->O):Prop:=∀G₀ H₀,PE X e (tX X G₀ H₀ g)
noncomputable def O.thenX(o:O)(k:D->Ev->O):O:=match o with
 |.re d ρ=>k d ρ
 |.ex C ρ=>.ex C ρ
 |_=>.no
section
variable{e a b c:Expr}{dj:List Expr}{g1 g2:Ev->O}{ga:Ev->R D}{gt:Ev->R Bool}{s1 s2:List Stmt}{h1 h2:Ev->O}
def Exx.fly{H₀:Hp}(sr:StR X.K G₀ H₀ G H σ ρ)(h:∀e s',FlyS X G₀ H₀ ρ C e s'->X.xe e s'):Exx X σ G H C:=λe s' ⟨G1,H1,u,f⟩=>h e s' (.of (sr.ups u) f)
def tX.read{α β:Type}{rep:Hp->β->α->Prop}{H₀:Hp}{m:Ev->R α}{Q:β->Hp->Prop}(sr:StR X.K G₀ H₀ G H σ ρ)(hk:∀a,m ρ=.ok a->∀v G1 H1,Up G H G1 H1->StR X.K G₀ H₀ G1 H1 σ ρ->rep G1 v a->Q v H1)(he:∀C,m ρ=.ex C->∀e s',FlyS X G₀ H₀ ρ C e s'->X.xe e s')(hn:m ρ≠.no):tG X rep m σ H Q:=by
 refine⟨G,ρ,sr.e,?_⟩;cases q:m ρ with
 |ok a=>exact λv G' H' u r=>hk a q v G' H' u (sr.ups u) r
 |ex C=>exact Exx.fly sr (he C q)
 |no=>exact absurd q hn
end
noncomputable def JO(C:Addr)(ρ:Ev)(i:Nat):R (Bool×Addr×List (Nat×Fd)):=match ρ[i]? with
 |some (some (.obj m C' p fs))=>if C'=C then .ok (m,p,fs)else .no
 |_=>.no
noncomputable def RM.outX(r:RM)(m:Bool)(C p:Addr)(i:Nat)(ρ:Ev):O:=match r with
 |.ok d fs'=>if m=true then .re d (ρ.set i (some (.obj true C p fs')))else .no
 |.rd d=>.re d ρ
 |.ex E=>.ex E ρ
 |.no=>.no
noncomputable def iZ(C:Addr)(i n:Nat)(F:MF)(gl:Ev->R (List D)):Ev->O:=λρ=>(JO C ρ i).out ρ λo=>(gl ρ).out ρ λds=>if ds.length=n then (F o.2.2 ds).outX o.1 C o.2.1 i ρ else .no
def yr{H₀:Hp}{Q:VK}{k:Bool×Addr×List (Nat×Fd)->O}(h:Bv X G₀ H₀ σ Q ((JO C ρ i).out ρ k)):∃m p fs,ρ[i]?=some (some (.obj m C p fs))/\Bv X G₀ H₀ σ Q (k (m,p,fs)):=by
 unfold JO at h;split at h
 ·rename_i m C' p fs e;by_cases z:C'=C;·subst z;rw[if_pos rfl]at h;exact⟨m,p,fs,e,h⟩
  ·rw[if_neg z]at h;exact h.elim
 ·exact h.elim
section
variable{e:Expr}{mn:Str}{n:Nat}{p1 ap ep:Pos}
def DP{H₀:Hp}{Q:VK}{Q':List V->Hp->Prop}{r:List D->O}(sr:StR X.K G₀ H₀ G H σ ρ)(h:Bv X G₀ H₀ σ Q ((gl ρ).out ρ λds=>if ds.length=n then r ds else .no))(hk:∀vs G1 H1 ds,StR X.K G₀ H₀ G1 H1 σ ρ->Reps X.K G1 vs ds->ds.length=n->Bv X G₀ H₀ σ Q (r ds)->Q' vs H1):tAF X gl σ H Q':=by
 refine tX.read sr (λds e vs G1 H1 u s1 rr=>?_) (λC e=>?_) λe=>?_
 ·rw[e]at h;have h:Bv X G₀ H₀ σ Q (if ds.length=n then r ds else .no):=h;by_cases hz:ds.length=n;·rw[if_pos hz]at h;exact hk vs G1 H1 ds s1 rr hz h
  ·rw[if_neg hz]at h;exact h.elim
 ·rw[e]at h;exact h
 ·rw[e]at h;exact h
def oQ{H₀:Hp}{fs:List (Nat×Fd)}{Q:VK}{mm:Bool}(M:FnM X.prog X.w X.K X.mg X.base k f fd ps C F)(hr:Room k X.A)(hb:Binds X.K fd ps [])(hl:ps.length=n+1)(I:Inv X pins σ H s)(r:Vals vs us)(rp:Reps X.K G vs ds)(hz:ds.length=n)(sr:StR X.K G₀ H₀ G H σ ρ)(e1:ρ[i]?=some (some (.obj mm C p fs)))(h:Bv X G₀ H₀ σ Q ((F fs ds).outX mm C p i ρ)):wpAny (model X.prog X.w) X.A (call (.ref f) (.ref p::us)) (EP X pins σ Q) X.xe s:=by
 obtain⟨ow1,o1,o2⟩:=sr.ob;obtain⟨_,ob1⟩:=o2 i mm C p fs e1;refine lJ M hr hb hl I r rp hz sr.e.sub (λa t q=>(iQ q).2.2.1) ob1.cut ?_;cases q:F fs ds with
 |ok d fs'=>
  rw[q]at h;cases mm with
  |false=>exact h.elim
  |true=>exact λv G' H' ow' u ob rv=>h v G' H' (sr.meth e1 o1 o2 u ob) rv
 |rd d=>rw[q]at h;exact λv G' H' u rv=>h v G' H' (sr.ups u) rv
 |ex C'=>rw[q]at h;exact Exx.fly sr h
 |no=>rw[q]at h;exact h.elim
def Il{pl:Sem Bool}(i:Nat)(c:CF X.K C ks)(m:MCallee X.prog X.w X.K X.mg X.base C mn k n F)(hr:Room k X.A)(ha:PFA X (e::es) gl)(hi:X.N[i]?=some x:=by rfl)(hv:Vis X.env.scope x:=by first|exact Or.inl rfl|exact Or.inr (Or.inl rfl)|exact Or.inr (Or.inr rfl))(hd:(x==("__debug__":Str))=false:=by decide)(hcd:(x==("__classdict__":Str))=false:=by decide)(hmn:∀k,k<fnames.length->(mn==di k)=false:=by decide)(hst:starEach (e::es) X.env=(false,eval e X.env)::starEach es X.env:=by rfl)(hpl:(backTo pos (starEach es X.env)).any (·.1)=false:=by rfl)(ht:eval (.Call (.Attribute (.Name x p1) mn ap) (e::es) [] pos) X.env=(do
 let ov <- eval (.Name x p1) X.env
 standAt ap.atName
 let (f,first) <- holding [ov] (getMethod ov mn pl)
 callWith pos f first (backTo pos (starEach (e::es) X.env)) (backToKw pos (keywordEach [] X.env))):=by rfl):
  PFX X (.Call (.Attribute (.Name x p1) mn ap) (e::es) [] pos) (iZ C i n F gl):=λG₀ H₀ pins s σ H Q I h=>by
 obtain⟨f,fd,ps,M,hm,hb,hl⟩:=m.ex;obtain⟨G,ρ,sr,h⟩:=h;obtain⟨mm,p,fs,e1,h⟩:=yr h;obtain⟨h1,_⟩:=sr.e.obs i mm C p fs e1;have v:PE X (.Name x p1) (DE i):=dv hi hv hd hcd;refine PySem.W.methodCall_KW (pl:=pl) (thn (v pins s σ H (λu H'=>u=.ref p/\H'=H) I ⟨_,h1,rfl,rfl⟩) λu s1 ⟨v',H',I',rv,ev,eh⟩=>?_) ht;subst ev eh;obtain rfl:u=Value.ref p:=rv;obtain⟨_,ow,ob0⟩:=sr.e.obs i mm C p fs e1;obtain⟨dx,vs,g1,g2,g3,g4,g5,g6,g7,g8⟩:=ob0.ins c.ne;refine iV I' g1 c.cl hm (g8.none hmn) ?_;have t:tAF X gl σ H' (λvs H1=>∃G1 ds,StR X.K G₀ H₀ G1 H1 σ ρ/\Reps X.K G1 vs ds/\ds.length=n/\Bv X G₀ H₀ σ Q ((F fs ds).outX mm C p i ρ)):=
  DP sr h λvs G1 H1 ds s1 r hz h=>⟨G1,ds,s1,r,hz,h⟩
 refine PySem.W.callWith_K (first:=[.ref p]) (h₀:=X.base) I.ok.mod.kin hm.kp (thn (ha pos pins s1 σ H' _ I' t) λus s2 q=>⟨?_,?_⟩) hst hpl;·obtain⟨vs,H1,I1,r,_⟩:=q;exact I1.kIn
 obtain⟨vs,H1,I1,r,G1,ds,s2,rp,hz,h2⟩:=q;exact oQ M hr hb hl I1 r rp hz s2 e1 h2
end
structure CalleeM(P:Program)(w:World)(K:PySem.W.Frag)(mg:Str->Option Value)(base:Heap)(C:Addr)(x:Str)(k n:Nat)(F:MF):Prop where
 ex:∃f fd ps,FnM P w K mg base k f fd ps C F/\mg x=some (.ref f)/\PySem.W.keepIn K (.ref f)=true/\Binds K fd ps []/\ps.length=n+1
def CalleeM.mono{w:World}{K:PySem.W.Frag}{mg:Str->Option Value}{base:Heap}{n:Nat}(c:CalleeM P w K mg base C x k n F)(k':Nat)(h:k<=k':=by decide):CalleeM P w K mg base C x k' n F:=by obtain⟨f,fd,ps,M,hm,hk,hb,e⟩:=c.ex;exact⟨f,fd,ps,{ M with run:=λA outer s H args us vs Q E hr=>M.run A outer s H args us vs Q E (hr.mono h) },hm,hk,hb,e⟩
section
variable{n:Nat}{p1:Pos}
def oW(i:Nat)(c:CalleeM X.prog X.w X.K X.mg X.base C x k n F)(hr:Room k X.A)(ha:PFA X es gl)(hi:X.N[i]?=some y:=by rfl)(hv:Vis X.env.scope y:=by first|exact Or.inl rfl|exact Or.inr (Or.inl rfl)|exact Or.inr (Or.inr rfl))(hd:(y==("__debug__":Str))=false:=by decide)(hcd:(y==("__classdict__":Str))=false:=by decide)(hg:Gl X x:=by rfl)(hdb:(x==("__debug__":Str))=false:=by decide)(hst:starEach (.Name y py::es) X.env=(false,eval (.Name y py) X.env)::starEach es X.env:=by rfl)(hpl:(backTo pos (starEach es X.env)).any (·.1)=false:=by rfl):
  PFX X (.Call (.Name x p1) (.Name y py::es) [] pos) (iZ C i n F gl):=λG₀ H₀ pins s σ H Q I h=>by
 obtain⟨f,fd,ps,M,hm,hk,hb,hl⟩:=c.ex;obtain⟨G,ρ,sr,h⟩:=h;obtain⟨mm,p,fs,e1,h⟩:=yr h;obtain⟨h1,_⟩:=sr.e.obs i mm C p fs e1;have v:PE X (.Name y py) (DE i):=dv hi hv hd hcd;refine wpAny_Call_Name_kw (mv I hg hm ?_ hdb);have t:zS (DE i) (tAF X gl) σ H (λvs H1=>∃ws G1 ds,vs=.ref p::ws/\StR X.K G₀ H₀ G1 H1 σ ρ/\Reps X.K G1 ws ds/\ds.length=n/\Bv X G₀ H₀ σ Q ((F fs ds).outX mm C p i ρ)):=
  ⟨_,h1,DP sr h λvs G1 H1 ds s1 r hz h=>⟨vs,G1,ds,rfl,s1,r,hz,h⟩⟩
 refine PySem.W.callWith_K (h₀:=X.base) I.ok.mod.kin hk (thn (du v ha hst pos pins s σ H _ I t) λus s2 q=>⟨?_,?_⟩) hst hpl;·obtain⟨vs,H1,I1,r,_⟩:=q;exact I1.kIn
 obtain⟨vs,H1,I1,r,ws,G1,ds,rfl,s2,rp,hz,h2⟩:=q;cases r with
 |cons ru r=>obtain rfl:=ru;exact oQ M hr hb hl I1 r rp hz s2 e1 h2
end
noncomputable def Iv(P:Program)(w:World)(K:PySem.W.Frag)(mg:Str->Option Value)(base:Heap)(k:Nat)(s1:Shared)(G1 H1:Hp)(f:Addr)(Q:VK):Prop:=
 ∀(Y:Cx)(pins:List (Addr×Obj))(σY:St)(G2 H2:Hp)(s2:Shared)(fs:List Addr),Y.prog=P->Y.w=w->Y.K=K->Y.mg=mg->Y.base=base->Inv Y pins σY H2 s2->Room k Y.A->Un fs [] H1 H2 s1.heap s2.heap->Up G1 H1 G2 H2->
  (∃o fd,s2.heap.get? f=some o/\o.data=.func fd)/\wpAny (model Y.prog Y.w) Y.A (call (.ref f) []) (EP Y pins σY Q) Y.xe s2
structure ToldOk(P:Program)(w:World)(K:PySem.W.Frag)(mg:Str->Option Value)(base:Heap)(x:Str)(k j:Nat):Prop where
 ex:∃ft,mg x=some (.ref ft)/\PySem.W.keepIn K (.ref ft)=true/\∀(A:Around)(outer:List Env)(s1:Shared)(G1 H1:Hp)(f:Addr)(Q:VK)(E:XK),Room k A->Env0 P w K mg base A outer s1 H1->Same G1 H1->Iv P w K mg base j s1 G1 H1 f Q->
  codeAny (model P w) A (.call (.ref ft) ⟨[.ref f],[]⟩) (CR (CXo P w) outer P w H1 s1 Q E) s1
noncomputable def fI(g:Ev->O):Ev->O:=λρ=>(g ρ).thenX λ_ ρ'=>.nx ρ'
def oO{e:Expr}(h:PFX X e g)(hs:swapsWith e none pos.line X.env=pure false:=by rfl):PSF X (.Expr e pos) (fI g):=λG₀ H₀ pins s σ H D I ⟨G,ρ,sr,q⟩=>by
 refine jp (h G₀ H₀) hs pins s σ H D I ⟨G,ρ,sr,?_⟩;unfold fI at q;cases e:g ρ with
 |re d ρ'=>rw[e]at q;exact λv G' H' s' r=>q σ G' H' s'
 |ex C ρ'=>rw[e]at q;exact q
 |_=>rw[e]at q;exact q.elim
section
variable{e:Expr}{ga:Ev->R D}
noncomputable def Bw:List D->Option D
 | [.int i]=>some (.int (if i<0 then -i else i))
 |_=>none
def zV:kI X (.builtin "abs") (λxs H Q=>∃i:Int,xs=[.int i]/\Q (.int (if i<0 then -i else i)) H):=by intro pins s σ H xs us Q I r ⟨i,ex,q⟩;subst ex;obtain⟨u,rfl,r1⟩:=r.one;obtain⟨t,rfl⟩:=r1;exact call_abs_int λu tk=>⟨.int _,H,I.tok _,⟨_,rfl⟩,q⟩
def Gq(K:PySem.W.Frag):G8 K (λxs H Q=>∃i:Int,xs=[.int i]/\Q (.int (if i<0 then -i else i)) H) Bw:=by
 intro G H xs ds d Q s r e q;unfold Bw at e;split at e;·cases e;obtain⟨v,rfl,r1⟩:=r.one;exact⟨_,by rw[r1.int_inv],q _ G H (.refl s) (.int _)⟩
 ·cases e
def Kk{p:Pos}(hg:Gl X "abs")(hm:X.mg "abs"=none)(ha:PFA X [e] gl)(he:starEach [e] X.env=(false,eval e X.env)::starEach [] X.env:=by rfl):
  PF X (.Call (.Name "abs" p) [e] [] pos) (gOf Bw gl):=lD zV (Gq _) hg hm PyProof.Rows.Boot.«abs» ha (by decide) (by decide) he rfl
end
section
variable{e o:Expr}{ga:Ev->R D}
noncomputable def D1:V->List V->Hp->VK->Prop:=λx vs H Q=>∃(y:Str)(c:Nat),x=.str y/\vs=[.str ⟨#[c]⟩]/\y.length<=sizeLine/\Q (.str (Txt.stripChars y ⟨#[c]⟩)) H
def Bl:MtR X "str.strip" D1:=by intro pins s σ H x xs v us Q I rx rv ⟨y,c,ex,exs,hz,q⟩;subst ex exs;obtain⟨t,rfl⟩:=rx;obtain⟨u,rfl,r1⟩:=rv.one;obtain⟨t',rfl⟩:=r1;exact SCL.stripChars (λt'' k _=>⟨.str _,H,I.tok _,⟨_,rfl⟩,q⟩) hz
end
def StE.consV{K:PySem.W.Frag}(st:StE K G H σ ρ)(hno:NoOwn ρ)(r:Rep K G v d):StE K G H (some v::σ) (some (.val d)::ρ):=by
 refine⟨st.sub,by simp[st.len],λi d' e=>?_,λi m C p fs e=>?_⟩
 ·cases i with
  |zero=>cases e;exact⟨v,rfl,r⟩
  |succ j=>rw[List.getElem?_cons_succ]at e⊢;exact st.val j d' e
 ·cases i with
  |zero=>cases e
  |succ j=>rw[List.getElem?_cons_succ]at e;exact absurd e (hno.obj j m C p fs)
def Br{w:World}{K:PySem.W.Frag}{mg:Str->Option Value}{base:Heap}{N:List Str}{cl:List (Str×Addr)}{A:Around}{outer:List Env}{E:XK}{tk:Nat}(C:ClOk N scope cl σ H s.heap)(hx:scope.names.lookup x=some .local)(rv:RelV v u)(hd:A.handled=none)(e0:Env0 P w K mg base A outer s H)(hns:h'.Ns s.heap.objs.size λy=>List.lookup y [(x,u)].reverse)(hk:∀b o,s.heap.get? b=some o->h'.get? b=some o):
  Inv (qY P w K mg base (x::N) qual scope cl f cd A outer s H E) [] (some v::σ) H { s with heap:=h',toks:=tk }:=by
 have noA:∀b:Addr,b∉(qY P w K mg base (x::N) qual scope cl f cd A outer s H E).ex:=λb z=>absurd (show b∈([]:List Addr) from z) (by simp);refine⟨⟨e0.mod,C.kind,rfl,rfl,Nat.le_refl _,C.inj,λy hy=>?_,λy c z _=>?_,λ_=>hd,Around.frames_deeper e0.frames,.inr ⟨rfl,rfl⟩,λb z=>absurd z (noA b),e0.bs,e0.bsz,λb _ _=>noA b,λb z=>absurd z (noA b),e0.funs,e0.frf,e0.tabs⟩,
  rfl,e0.bare,Un.kept hk,⟨_,hns,λi y v' h1 h2 h3=>?_⟩,λy c h=>?_,e0.hok.fresh (Nat.le_refl _),λy c h=>(C.cell y c h).1,λp hp=>absurd (show p∈([]:List (Addr×Obj)) from hp) (by simp),e0.hok.kept hk,by show(some v::σ).length=(x::N).length;rw[List.length_cons,List.length_cons,C.len]⟩
 ·have hy:scope.names.lookup y=some .cell\/scope.names.lookup y=some .free:=hy;rcases hy with hy|hy;·exact absurd rfl (C.nocell _ (PySem.mem_of_lookup hy))
  ·exact C.has y hy
 ·cases z
 ·have h1:(x::N)[i]?=some y:=h1;cases i with
  |zero=>rw[List.getElem?_cons_zero]at h1 h2;cases h1;cases h2;exact⟨u,rv,.inl ⟨hx,by simp[List.lookup]⟩⟩
  |succ j=>rw[List.getElem?_cons_succ]at h1 h2;obtain⟨u,c,r,k,e,q⟩:=C.val j y v' h1 h2;exact⟨u,r,.inr ⟨.inr k,c,e,q.keeps hk⟩⟩
 ·obtain⟨_,v,q⟩:=C.cell y c h;exact⟨v,q.keeps hk⟩
section
variable{Y:Cx}{σY:St}{N:List Str}{params:Arguments}{body:Expr}{cl:List (Str×Addr)}{pm ctv:Value}{te:TE}{Q:VK}{E:XK}
def sY(J:Inv Y pins σY H s)(hr:Room (k+1) Y.A)(hf:s.heap.get? f=some o)(hfd:o.data=.func (PySem.W.kla_fn "<lambda>" qual params body scope cl pm cd ctv))(hcd:s.heap.CodeRec cd qual)(hp:bindArgs (PySem.W.kla_fn "<lambda>" qual params body scope cl pm cd ctv) ⟨[u],[]⟩=pure [(x,u)])(hco:scope.isCoroutine=false)(hge:scope.isGenerator=false)(C:ClOk N scope cl σ H s.heap)(hx:scope.names.lookup x=some .local)(rv:RelV v u)(hb:PE (qY Y.prog Y.w Y.K Y.mg Y.base (x::N) qual scope cl f cd Y.A Y.stack s H E) body te)(h:te (some v::σ) H Q):
  wpAny (model Y.prog Y.w) Y.A (call (.ref f) [u]) (EP Y pins σY Q) (λe s'=>CXo Y.prog Y.w Y.stack H s E e s') s/\
  wpAny (model Y.prog Y.w) Y.A (call (.ref f) [u]) (λw s'=>CE Y.stack Y.prog Y.w H s Q w s') (λe s'=>CXo Y.prog Y.w Y.stack H s E e s') s:=by
 have lim:s.heap.NoLimit:=J.nolimit;have core:codeAny (model Y.prog Y.w) Y.A (.call (.ref f) ⟨[u],[]⟩) (CR (CXo Y.prog Y.w) Y.stack Y.prog Y.w H s Q E) s:=by refine PySem.W.kla_callFunE hr.depth hf hfd hco hge rfl hcd (wpAny_of_eq hp ?_);refine wpAny_newFunctionEnv C.nocell (by intro y hy;rw[List.mem_singleton.1 hy];exact hx) (λh₁ hns₁ hsb₁=>?_) C.kind;have old:∀b ob,s.heap.get? b=some ob->h₁.get? b=some ob:=λb ob e=>hsb₁.extBut b ob (Nat.ne_of_lt (Heap.lt_size e)) (Heap.get?_push_of_some _ e);refine⟨lim.keeps old,PySem.W.kla_codeExpr ?_⟩;refine wpAny_mono (hb [] _ (some v::σ) H Q (Br C hx rv hr.hd J.env0 hns₁ old) h) (λu s' hs=>?_) λe s' hs=>hs;obtain⟨v,H',I',rv,q⟩:=hs;exact⟨v,H',I'.os,I'.bare,I'.base,I'.hok,rv,q⟩
 refine⟨wpAny_call (codeAny_mono core λr s' hq=>?_),wpAny_call (codeAny_mono core λr s' hq=>?_)⟩
 ·cases r with
  |error e=>exact hq
  |ok fl=>
   cases fl with
   |ret u=>exact J.after hq
   |_=>exact False.elim hq
 ·cases r with
  |error e=>exact hq
  |ok fl=>
   cases fl with
   |ret u=>exact hq
   |_=>exact False.elim hq
end
noncomputable def vy(ds:List D):R D:=eF ds>>=λxs=>if xs.length<=1000 then .ok (.lst false xs)else .no
noncomputable def zf(gl:Ev->R (List D)):Ev->R D:=λρ=>gl ρ>>=vy
def sB{i:Int}:∀(n k:Nat)(l:List Value),l.length=n->(∀(j:Nat)(v:Value),l[j]?=some v->∃t,v=Value.int (i+((k+j:Nat):Int)) t)->Vals ((List.range' k n).map λ(m:Nat)=>V.int (i+(m:Int))) l
 | 0,k,[],_,_=>.nil
 |n+1,k,v::l,h,hv=>by
  rw[List.range'_succ,List.map_cons];refine .cons ?_ (sB n (k+1) l (by simpa using h) λj w e=>?_);·obtain⟨t,z⟩:=hv 0 v rfl;exact⟨t,z⟩
  ·obtain⟨t,z⟩:=hv (j+1) w (by rw[List.getElem?_cons_succ];exact e);exact⟨t,by rw[z];congr 2;omega⟩
def sN{K:PySem.W.Frag}{G:Hp}{i:Int}:∀(n k:Nat),Reps K G ((List.range' k n).map λ(m:Nat)=>V.int (i+(m:Int))) ((List.range' k n).map λ(m:Nat)=>D.int (i+(m:Int)))
 | 0,k=>.nil
 |n+1,k=>by rw[List.range'_succ,List.map_cons,List.map_cons];exact .cons (.int _) (sN n (k+1))
section
variable{a b:Expr}{p p2 pos2:Pos}
def Ek(hc:X.calm=true)(hgl:Gl X "list")(hml:X.mg "list"=none)(hg:Gl X "range")(hm:X.mg "range"=none)(ha:PFA X [a,b] gl)(hsl:starEach [.Call (.Name "range" p2) [a,b] [] pos2] X.env=(false,eval (.Call (.Name "range" p2) [a,b] [] pos2) X.env)::starEach [] X.env:=by rfl)(hs:starEach [a,b] X.env=[(false,eval a X.env),(false,eval b X.env)]:=by rfl)(hs2:starEach [b] X.env=[(false,eval b X.env)]:=by rfl):
  PF X (.Call (.Name "list" p) [.Call (.Name "range" p2) [a,b] [] pos2] [] pos) (zf gl):=by
 intro pins s σ H Q I h;obtain⟨G,ρ,st,h⟩:=h;have h:(gl ρ>>=vy).post (Fin G H (Rep X.K) Q) (Exx X σ G H):=h;have t:tAF X gl σ H (λvs H1=>∃G1 ds,Up G H G1 H1/\Same G1 H1/\Reps X.K G1 vs ds/\(vy ds).post (Fin G1 H1 (Rep X.K) Q) (Exx X σ G1 H1)):=
  tG.intro st h λds vs G1 H1 u1 st1 r1 h1=>⟨G1,ds,u1,st1.sub,r1,h1⟩
 refine Call_ (jk I hgl hml PyProof.Rows.Boot.«list» (PyProof.Rows.callWith_type1 ?_ hsl rfl));rw[hsl];show wpAny _ _ (spliced ((false,eval (.Call (.Name "range" p2) [a,b] [] pos2) X.env)::backTo pos (starEach [] X.env))) _ _ s;refine Calls.spliced_cons (Call_ (jk I hg hm boot_range (PyProof.Rows.callWith_type1 (thn (ha pos2 pins s σ H _ I t) λus s1 ⟨vs,H1,I1,r1,q1⟩=>?_) (by rw[hs,hs2]) (by rw[hs2];rfl))));obtain⟨G1,ds,u1,sub1,rp,h1⟩:=q1;unfold vy eF at h1;split at h1
 ·rename_i i j;split at h1
  ·rename_i hb;obtain⟨b1,b2,b3,b4⟩:=hb;have h1:(if ((List.range (j - i).toNat).map λ(k:Nat)=>D.int (i+(k:Int))).length<=1000 then R.ok (D.lst false ((List.range (j - i).toNat).map λ(k:Nat)=>D.int (i+(k:Int))))else .no:R D).post (Fin G1 H1 (Rep X.K) Q) (Exx X σ G1 H1):=h1;by_cases hl:((List.range (j - i).toNat).map λ(k:Nat)=>D.int (i+(k:Int))).length<=1000
   ·rw[if_pos hl]at h1;cases rp with
    |cons ra rp=>
     cases rp with
     |cons rb rp=>
      cases rp;cases ra;cases rb;cases r1 with
      |cons r rr=>
       cases rr with
       |cons r' rr=>
        cases rr;obtain⟨t,rfl⟩:=r;obtain⟨t',rfl⟩:=r';refine call_range_2 (Calls.spliced_nil ?_);have hn:Builtin.Range.rangeSize i j 1=(((j - i).toNat:Nat):Int):=by rw[rangeSize_one];split <;> omega
        have hl2:(j - i).toNat<=1000:=by simpa using hl
        refine call_list_range (I.ok.hd hc) (IsRange.new ..) (small_one b1 b2 b3 b4) hn (by omega) λh' tk acc c' hk hS hacc=>?_;have hk':∀b o,s1.heap.get? b=some o->h'.get? b=some o:=λb o e=>hk b o (Heap.get?_push_of_some _ e);have hz:(acc.toList).length=(j - i).toNat:=by simpa using hacc.1
        have vv:=sB (i:=i) (j - i).toNat 0 acc.toList hz λk v e=>by obtain⟨t,z⟩:=hacc.2 k v (by simpa using e);exact⟨t,by rw[z];simp⟩
        have hz2:((List.range' 0 (j - i).toNat).map λ(m:Nat)=>V.int (i+(m:Int))).length<=sizeLine:=by
         have:1000<=sizeLine:=by decide
         simp;omega
        have hge:∀ob:Obj,s1.heap.objs.size<=(s1.heap.push ob).objs.size:=λob=>by rw[size_push'];exact Nat.le_succ _
        refine⟨.ref _,_,Inv.laid (s:=s1) (h':=h') (t':=tk) (o:=.lst ((List.range' 0 (j - i).toNat).map λ(m:Nat)=>V.int (i+(m:Int)))) I1 hk' (hge _) ⟨hz2,acc.toList,c',vv,by simpa using hS⟩,rfl,h1 _ _ _ (.new sub1 (I1.hok.fresh (hge _))) (.lst aS ?_)⟩;rw[List.range_eq_range'];exact sN _ 0
   ·rw[if_neg hl]at h1;exact h1.elim
  ·exact h1.elim
 ·exact h1.elim
end
end L2
namespace L2
open PySem PySem.Spec PyProof.Rows
open PySem.AutoSeq1 (wpAny_loadPart')
open PySem.MeetsSeq PySem.MeetsSeq2 PySem.MeetsSeq3
noncomputable def hZ:List Int->List Int->Bool
 |x::xs,y::ys=>if x=y then hZ xs ys else decide (x > y)
 |_,_=>false
inductive NumPairs:List (Value×Value)->List Int->List Int->Prop
 |nil:NumPairs [] [] []
 |cons {zs:List (Value×Value)} {xs ys:List Int} (i:Int) (t:Addr) (j:Int) (u:Addr) (r:NumPairs zs xs ys):NumPairs ((.int i t,.int j u)::zs) (i::xs) (j::ys)
def NumPairs.zip:∀{us:List Value}{x:List Int},IntsAre us x->∀{vs:List Value}{y:List Int},IntsAre vs y->y.length=x.length->NumPairs (us.zip vs) x y
 |_,_,.nil,_,_,.nil,_=>.nil
 |_,_,.cons i t a,_,_,.cons j u b,e=>.cons i t j u (NumPairs.zip a b (Nat.succ.inj e))
 |_,_,.nil,_,_,.cons ..,e=>nomatch e
 |_,_,.cons ..,_,_,.nil,e=>nomatch e
theorem Cy{vs:List Value}{x y:List Int}(np:NumPairs (us.zip vs) x y)(hs:vs.length=us.length){m:Nat}{c e:Option Addr}{f g:Array (Option Value)}:
  Meets (Builtin.«tuple.__gt__» ⟨[.ref p,.ref q],[]⟩) λA R s=>s.heap.get? p=some ⟨.type "tuple",c,.seq us.toArray m,f⟩/\s.heap.get? q=some ⟨.type "tuple",e,.seq vs.toArray k,g⟩/\R (.ok (.ret (.bool (hZ x y)))) s:=
 .of_wp λprog w A R s ⟨ep,eq,h⟩=>by
  have st:=AutoSeq1.sub_tuple_tuple
  wp_walk using wpAny_loadPart' ep,wpAny_loadPart' eq,wpAny_forIn_list _ (λdj b z=>z=s/\b.1=none/\∃xs ys,NumPairs dj xs ys/\R (.ok (.ret (.bool (hZ xs ys)))) s) _
  case h=>exact⟨rfl,rfl,x,y,by simpa using np,h⟩
  case turn=>
   rintro _ dj b _ ⟨rfl,hb,_,_,np,hR⟩;obtain _ | @⟨_,xs,ys,i,t,j,u,np⟩:=np;refine wpAny_bind (PySem.SeqAt.EqAt.int_int i t j u prog w _ _ ?_);cases d:decide (i=j)with
   |true=>
    obtain rfl:=of_decide_eq_true d;simp only[beq_self_eq_true]
    wp_walk
    exact⟨rfl,rfl,xs,ys,np,by simpa[hZ]using hR⟩
   |false=>
    have n:=of_decide_eq_false d;simp only[beq_eq_false_iff_ne.2 n];have gt:∀{Q E z},Q (.bool (decide (i > j))) z->wpAny (model prog w) A.in1 (richCompare .Gt (.int i t) (.int j u)) Q E z:=λ{Q E z} o=>richCompare_gives (op:=.Gt) (typeIs_int z _ t) (typeIs_int z _ u) F.slot_int_gt F.entry_int_gt (F.args_int_gt_2 _ _) (gives_int_gt _ _ t u) (λx=>nomatch x) o
    wp_walk using gt
    exact⟨_,rfl,by simpa[hZ,n]using hR⟩
  case fin=>
   rintro ⟨b1,b2⟩ _ ⟨rfl,hb,_,_,np,hR⟩;cases np;cases (show b1=none from hb)
   wp_walk
   exact⟨_,rfl,by simpa[Builtin.Tuple.tupleCompareSizes,hs,hZ]using hR⟩
def GZ{prog:Program}{w:World}{A:Around}{l:Addr}{its2:List Value}{x y:List Int}{Q:Value->Shared->Prop}(hl:IsTup s.heap l its.toArray)(hb:IsTup s.heap b its2.toArray)(hi:IntsAre its x)(hj:IntsAre its2 y)(hn:y.length=x.length)(hu:A.units<cLine)(h:Q (.bool (hZ x y)) s):wpAny (model prog w) A (richCompare .Gt (.ref l) (.ref b)) Q E s:=by
 obtain⟨⟨cls,dd,data,sl⟩,ho,hc,n,hd⟩:=id hl;obtain⟨⟨cls2,dd2,data2,sl2⟩,ho2,hc2,n2,hd2⟩:=id hb;simp only at hc hd hc2 hd2;subst hc hd hc2 hd2;exact richCompare_meets_room (op:=.Gt) ⟨_,ho,rfl⟩ ⟨_,ho2,rfl⟩ PySem.F.slot_tuple_gt PySem.F.entry_tuple_gt (PySem.F.args_tuple_gt_2 _ _) (Cy (.zip hi hj hn) (by rw[hi.length,hj.length,hn]))
  ⟨ho,ho2,show Value.bool (hZ x y)≠Value.notImplemented/\Q (.bool (hZ x y)) s from⟨(λx=>nomatch x),h⟩⟩ hu
noncomputable def fJ:List D->Option (List Int)
 | []=>some []
 |.int i::ds=>(fJ ds).map (i::·)
 |_=>none
def qL{K:PySem.W.Frag}{G:Hp}:∀{ds:List D}{ns:List Int}{vs:List V}{us:List Value},fJ ds=some ns->Reps K G vs ds->Vals vs us->IntsAre us ns
 | [],ns,vs,us,e,r,v=>by cases e;cases r;cases v;exact .nil
 |d::ds,ns,vs,us,e,r,v=>by
  cases d with
  |int i=>
   cases h:fJ ds with
   |none=>simp[fJ,h]at e
   |some ms=>
    simp[fJ,h]at e;subst e;cases r with
    |cons r1 r2=>
     cases v with
     |cons v1 v2=>have:=r1.int_inv;subst this;obtain⟨t,rfl⟩:=v1;exact .cons i t (qL h r2 v2)
  |_=>simp[fJ]at e
def Un.data{fs ex:List Addr}(u:Un fs ex H H' h h')(e:h.get? b=some o)(n:H b=none)(x:b∉ex):∃o',h'.get? b=some o'/\o'.data=o.data:=by
 by_cases f:b∈fs;·obtain⟨sl,q⟩:=u.slot b o e n f x;exact⟨_,q,rfl⟩
 ·exact⟨o,u.keep b o e n f x,rfl⟩
noncomputable def oz(key:D->R D):D->List Int->List D->R D
 |b,_,[]=>.ok b
 |b,kb,x::xs=>match key x with
  |.ok (.tup ks)=>match fJ ks with
   |some kx=>if kb.length=kx.length then (if hZ kx kb then oz key x kx xs else oz key b kb xs)else .no
   |none=>.no
  |_=>.no
section
variable{params:Arguments}{body:Expr}{H0:Hp}{Ii S l:Addr}{cl:List (Str×Addr)}{pm ctv:Value}{σ':St}{ρ':Ev}{dd:D}{Rr:Result->Shared->Prop}
def zW(hc:X.calm=true)(hr:Room (j+2) X.A)(hh:X.A.handled=none)(hG:Same G H0)(hq:SqL X.K G l vs)(hlI:l≠Ii)(hSI:S≠Ii)(hSf:f≠S)(hIf:f≠Ii)(hSl:l≠S)(fpI:∀H',H' Ii=none->lN X pins H' Ii)(fpS:∀H',H' S=none->lN X pins H' S)(nfI:Ii∉frs X.stack)(nfS:S∉frs X.stack)(hcd:∃c o vs t u,cd=.ref c/\H0 c=some (.frz o u)/\o.data=.fields vs/\vs[1]?=some (.str qual t))(hp:∀u,bindArgs (PySem.W.kla_fn "<lambda>" qual params body scope cl pm cd ctv) ⟨[u],[]⟩=pure [(x,u)])(hco:scope.isCoroutine=false)(hge:scope.isGenerator=false)(hC:∀H s,Inv X pins σ H s->ClOk N' scope cl σ' H s.heap)(hx:scope.names.lookup x=some .local)(hb:∀s' H',PF (qY X.prog X.w X.K X.mg X.base (x::N') qual scope cl f cd X.A.in1 X.stack s' H' λ_ _ _=>False) body gb)(st:StE X.K G H0 σ' ρ')(hno:NoOwn ρ')(hR:∀v u H' s',Inv X pins σ H' s'->Same H0 H'->RelV v u->Rep X.K G v dd->Rr (.ok (.ret u)) s'):
  ∀(dj:List D)(vrest:List V)(p:Nat)(b:D)(vb:V)(kb:List Int)(ks:List D)(vk:V)(s:Shared)(H Gk:Hp)(ub kx:Value)(c:Nat)(o:Obj),p<=vs.length->vs.drop p=vrest->Reps X.K G vrest dj->oz (λd=>gb (some (.val d)::ρ')) b kb dj=.ok dd->
   Inv X pins σ H s->Same H0 H->s.heap.get? S=some (seqObj "list" #[ub,kx] c)->s.heap.IsListIter Ii l p->H Ii=none->H S=none->s.heap.get? f=some o->o.data=.func (PySem.W.kla_fn "<lambda>" qual params body scope cl pm cd ctv)->H f=none->
   RelV vb ub->Rep X.K G vb b->RelV vk kx->Same Gk H->Rep X.K Gk vk (.tup ks)->fJ ks=some kb->
   codeAny (model X.prog X.w) X.A (.builtin "max.loop" ⟨[.ref Ii,.ref f,.ref S],[]⟩) Rr s:=by
 have hname:(toString "max"++toString ".loop":String)="max.loop":=by decide
 intro dj;induction dj with
 |nil=>
  intro vrest p b vb kb ks vk s H Gk ub kx c o hpl hd hrs hm I hs gS hit nI nS gf gfd nf rb rpb rk sk rpk ek;cases hm;cases hrs;obtain⟨its,rvs,pl,hz⟩:=I.list ((hq.mono hG).mono hs);have W:=Walks.list (prog:=X.prog) (w:=X.w) (A:=X.A.in1) hh Ii l hlI its.toArray;have hlen:p=its.toArray.size:=by have h1:=rvs.length;have h2:=List.drop_eq_nil_iff.1 hd;have h3:p<=vs.length:=hpl;simp;omega
  subst hlen;refine codeAny_builtin PySem.F.entry_max_loop ?_;rw[Around.under_plainId PySem.F.plain_max_loop _];show wpAny _ X.A.in1 (seqItems? (.ref S)>>=_) _ _ _;refine wpAny_bind (wpAny_seqItems gS rfl ?_);show wpAny _ X.A.in1 (tryCatch (pyNext (.ref Ii)) _>>=_) _ _ _;refine wpAny_bind (wpAny_tryCatch (W.done _ _ _ ⟨hit,pl.isList⟩ λh6 tk6 hk6=>?_));have I6:Inv X pins σ H { s with heap:=h6,toks:=tk6 }:=Inv.turnedL (s:=s) (h':=h6) (t':=tk6) (ch:=[Ii]) I (λb ob hb e=>hk6 b ob hb e) (λb hb=>by rw[List.mem_singleton.1 hb];exact fpI H nI);have gS6:=hk6 S _ (by simpa using hSI) gS;have s7:=Heap.SameBut.update h6 S (Obj.mapSeq λ_=>(#[]:Array Value));show wpAny _ X.A.in1 (updateSeq S (λ_=>#[])>>=_) _ _ _;refine wpAny_bind ?_;refine wpAny_updateSeq gS6 rfl (wpAny_bind (wpAny_letGo (wpAny_pure ?_)));exact hR vb ub H _ (Inv.turnedL (s:={ s with heap:=h6,toks:=tk6 }) (t':=tk6) (ch:=[S]) I6 (λb ob hb e=>(s7.2 b (by simpa using hb)).trans e) (λb hb=>by rw[List.mem_singleton.1 hb];exact fpS H nS)) hs rb rpb
 |cons d dj ih=>
  intro vrest p b vb kb ks vk s H Gk ub kx c o hpl hd hrs hm I hs gS hit nI nS gf gfd nf rb rpb rk sk rpk ek;cases hrs with
  |cons rd rrest=>
  rename_i v vrest;obtain⟨its,rvs,pl,hz⟩:=I.list ((hq.mono hG).mono hs);have W:=Walks.list (prog:=X.prog) (w:=X.w) (A:=X.A.in1) hh Ii l hlI its.toArray;have hvp:vs[p]?=some v:=by have:=congrArg List.head? hd;simpa[List.head?_drop]using this
  have hdr:vs.drop (p+1)=vrest:=by have:=congrArg List.tail hd;simpa[List.tail_drop]using this
  obtain⟨u,hu,ru⟩:=rvs.get hvp;have hlt:p<its.toArray.size:=by simpa using (List.getElem?_eq_some_iff.1 hu).1
  refine codeAny_builtin PySem.F.entry_max_loop ?_;rw[Around.under_plainId PySem.F.plain_max_loop _];show wpAny _ X.A.in1 (seqItems? (.ref S)>>=_) _ _ _;refine wpAny_bind (wpAny_seqItems gS rfl ?_);show wpAny _ X.A.in1 (tryCatch (pyNext (.ref Ii)) _>>=_) _ _ _;refine wpAny_bind (wpAny_tryCatch (W.item p _ _ _ hlt ⟨hit,pl.isList⟩ λv' h3 tk3 hP hst3 hk3=>?_));have hv:v'=u:=by
   have:its[p]?=some v':=by simpa using hP
   rw[hu]at this;cases this;rfl
  subst hv;obtain⟨oI,hoI,hoc,hod⟩:=id hst3.1;have I3:Inv X pins σ H { s with heap:=h3,toks:=tk3 }:=Inv.turnedL (s:=s) (h':=h3) (t':=tk3) (ch:=[Ii]) I (λb ob hb e=>hk3 b ob hb e) (λb hb=>by rw[List.mem_singleton.1 hb];exact fpI H nI);have gS3:h3.get? S=some (seqObj "list" #[ub,kx] c):=hk3 _ _ (by simpa using hSI) gS;have gf3:h3.get? f=some o:=hk3 _ _ (by simpa using hIf) gf;show wpAny _ X.A.in1 (tryCatch (holding [v'] (call (.ref f) [v'])) _>>=_) _ _ _;have J:Inv { X with A:=X.A.in1 } pins σ H { s with heap:=h3,toks:=tk3 }:=I3.cx (A':=X.A.in1) (calm':=X.calm) (pn':=X.pn) (pins':=pins) (xe':=X.xe) (λp q=>q) rfl (λ_=>hh);have code:h3.CodeRec cd qual:=by obtain⟨c,oc,vs,t,u,rfl,e,d,q⟩:=hcd;obtain⟨e2,_⟩:=I3.hok c _ (hs c _ e);exact⟨c,oc,vs,t,rfl,e2,d,q⟩
  have up0:Up G H0 G H:=⟨hG.trans hs,.refl _,hs,λ_ _ h=>.inl h⟩
  have stH:=st.up up0;cases eg:gb (some (.val d)::ρ')with
  |ex C=>simp[oz,eg]at hm
  |no=>simp[oz,eg]at hm
  |ok dk=>
  cases dk with
  |tup kds=>
   cases ei:fJ kds with
   |none=>simp[oz,eg,ei]at hm
   |some kn=>
   by_cases hn:kb.length=kn.length
   case neg=>simp[oz,eg,ei,hn]at hm
   simp only[oz,eg,ei,if_pos hn]at hm;have call:=(sY (Y:={ X with A:=X.A.in1 }) (k:=j) (E:=λ_ _ _=>False) (te:=λσ H Q=>∃G ρ,StE X.K G H σ ρ/\∃d,gb ρ=.ok d/\∀v G' H',Up G H G' H'->Rep X.K G' v d->Q v H') (Q:=λv H'=>Same H H'/\∃G',Same G' H'/\Rep X.K G' v (.tup kds)) J hr.in1 gf3 gfd code (hp v') hco hge (hC _ _ I3) hx ru (λpins s σ H Q I ⟨G,ρ,st,d,e,h⟩=>by refine hb _ _ pins s σ H Q I ⟨G,ρ,st,?_⟩;rw[e];exact λv G' H' u r=>h v G' H' u r) ⟨G,_,stH.consV hno rd,_,eg,λv G' H' u3 r3=>⟨u3.hh,G',u3.sub,r3⟩⟩).2;refine wpAny_bind (wpAny_tryCatch (wpAny_holding (wpAny_mono call (λk2 s4 he=>?_) λe s' hF=>?_)))
   rotate_left
   ·obtain⟨_,_,_,_,_,z⟩:=hF;exact z.elim
   obtain⟨v2,H4,os4,bare4,un4,hok4,rk4,sm4,G4,sg4,rp4⟩:=he;have I4:Inv X pins σ H4 s4:=I3.call' (s':=s4) (ch:=[]) os4 un4 hok4 bare4 (λb z=>absurd z (by simp));have gS4:s4.heap.get? S=some (seqObj "list" #[ub,kx] c):=un4.keep _ _ gS3 nS nfS (by simp);have gI4:s4.heap.get? Ii=some oI:=un4.keep _ _ hoI nI nfI (by simp);obtain⟨o4,gf4,gd4⟩:=un4.data gf3 nf (by simp);have nI4:H4 Ii=none:=un4.free _ _ hoI nI (by simp);have nS4:H4 S=none:=un4.free _ _ gS3 nS (by simp);have nf4:H4 f=none:=un4.free _ _ gf3 nf (by simp);have hit4:s4.heap.IsListIter Ii l (p+1):=⟨oI,gI4,hoc,hod⟩
   obtain⟨a1,w1,rfl,q1,z1⟩:=rpk.tup_inv;obtain⟨a2,w2,rfl,q2,z2⟩:=rp4.tup_inv;cases rk;cases rk4;obtain⟨i1,v1,t1,_⟩:=I4.tuple ((q1.mono sk).mono sm4);obtain⟨i2,v2',t2,_⟩:=I4.tuple (q2.mono sg4);show wpAny _ X.A.in1 (tryCatch (holding [v',.ref a2] (richCompare .Gt (.ref a2) (.ref a1)>>=_)) _>>=_) _ _ _;refine wpAny_bind (wpAny_tryCatch (wpAny_holding (wpAny_bind (GZ t2 t1 (qL ei z2 v2') (qL ek z1 v1) hn hr.in1.units0 ?_))));refine wpAny_bind (wpAny_holding (wpAny_truthy_bool ?_));refine wpAny_bind (wpAny_letGo (wpAny_pure ?_));cases hg:hZ kn kb with
   |true=>
    rw[hg,if_pos rfl]at hm;have s1:=Heap.SameBut.update s4.heap S (Obj.mapSeq λ_=>#[v',.ref a2]);obtain⟨c2,hc2⟩:∃c2,(s4.heap.update S (Obj.mapSeq λ_=>#[v',.ref a2])).get? S=some (seqObj "list" #[v',.ref a2] c2):=⟨_,get?_update_seq gS4 λ_=>#[v',.ref a2]⟩
    simp only[if_true];refine wpAny_bind ?_;refine wpAny_updateSeq gS4 rfl (wpAny_bind (wpAny_letGo ?_));rw[hname];refine wpAny_pure ⟨plainId_quiet PySem.F.plain_max_loop _,ih vrest (p+1) d v kn kds (.ref a2) _ H4 G4 v' _ c2 o4 ?_ hdr rrest hm ?_ (hs.trans sm4) hc2 ⟨oI,(s1.2 Ii hSI.symm).trans gI4,hoc,hod⟩ nI4 nS4 ((s1.2 f hSf).trans gf4) (gd4.trans gfd) nf4 ru rd rfl sg4 rp4 ei⟩;·have:=(List.getElem?_eq_some_iff.1 hvp).1;omega
    ·exact Inv.turnedL (s:=s4) (t':=s4.toks) (ch:=[S]) I4 (λb ob hb e=>(s1.2 b (by simpa using hb)).trans e) (λb hb=>by rw[List.mem_singleton.1 hb];exact fpS H4 nS4)
   |false=>rw[hg,if_neg (by decide)]at hm;simp only[Bool.false_eq_true,if_false];refine wpAny_bind (wpAny_letGo ?_);rw[hname];refine wpAny_pure ⟨plainId_quiet PySem.F.plain_max_loop _,ih vrest (p+1) b vb kb ks (.ref a1) _ H4 Gk ub _ c o4 ?_ hdr rrest hm I4 (hs.trans sm4) gS4 hit4 nI4 nS4 gf4 (gd4.trans gfd) nf4 rb rpb rfl (sk.trans sm4) rpk ek⟩;have:=(List.getElem?_eq_some_iff.1 hvp).1;omega
  |_=>simp[oz,eg]at hm
end
section
variable{params:Arguments}{body:Expr}{l:Addr}{cl:List (Str×Addr)}{pm ctv:Value}{σ':St}{ρ':Ev}{vr:List V}{v0:V}{d0 dd:D}{ks:List D}{kb:List Int}{Q:VK}
def yE(hc:X.calm=true)(hr:Room (j+2) X.A)(I:Inv X pins σ H s)(hG:Same G H)(hq:SqL X.K G l (v0::vr))(r0:Rep X.K G v0 d0)(rr:Reps X.K G vr ds)(hf:s.heap.get? f=some o)(hfn:H f=none)(hfd:o.data=.func (PySem.W.kla_fn "<lambda>" qual params body scope cl pm cd ctv))(hcd:∃c o vs t u,cd=.ref c/\H c=some (.frz o u)/\o.data=.fields vs/\vs[1]?=some (.str qual t))(hp:∀u,bindArgs (PySem.W.kla_fn "<lambda>" qual params body scope cl pm cd ctv) ⟨[u],[]⟩=pure [(x,u)])(hco:scope.isCoroutine=false)(hge:scope.isGenerator=false)(hC:∀H s,Inv X pins σ H s->ClOk N' scope cl σ' H s.heap)(hx:scope.names.lookup x=some .local)(hb:∀s' H',PF (qY X.prog X.w X.K X.mg X.base (x::N') qual scope cl f cd X.A.in1 X.stack s' H' λ_ _ _=>False) body gb)(st:StE X.K G H σ' ρ')(hno:NoOwn ρ')(eg:gb (some (.val d0)::ρ')=.ok (.tup ks))(ek:fJ ks=some kb)(em:oz (λd=>gb (some (.val d)::ρ')) d0 kb ds=.ok dd)(hQ:∀v H',Same H H'->Rep X.K G v dd->Q v H'):
  wpAny (model X.prog X.w) X.A (call (.builtin "max") [.ref l] [(Str.ofString "key",.ref f)]) (EP X pins σ Q) X.xe s:=by
 have hname:(toString "max"++toString ".loop":String)="max.loop":=by decide
 obtain⟨its,rvs,pl,hz⟩:=I.list (hq.mono hG);have hl:=pl.isList;obtain⟨ol,hol,_⟩:=id hl;have hll:l<s.heap.objs.size:=Heap.lt_size hol;have hfl:f<s.heap.objs.size:=Heap.lt_size hf;have hh:X.A.handled=none:=I.ok.hd hc;refine kmk_tree PySem.F.kind_max PySem.F.plain_max PySem.F.entry_max (kmk_max_key _ _) ?_;show wpAny _ X.A.in1 (Builtin.Builtins.bindParams "max" ["key","default"] 0 ⟨[],[(Str.ofString "key",.ref f)]⟩>>=_) _ _ s;refine wpAny_bind (wpAny_of_eq (show Builtin.Builtins.bindParams "max" ["key","default"] 0 ⟨[],[(Str.ofString "key",.ref f)]⟩=pure [some (.ref f),none] from rfl) ?_);refine wpAny_bind (wpAny_pure ?_);refine wpAny_bind (wpAny_pyIter_list hl ?_);refine wpAny_bind (wpAny_newList ?_ (Nat.zero_le _));rw[hname];generalize hI:s.heap.objs.size=Ii at *;have hS:(s.heap.push { cls:=.type "list_iterator",data:=.fields #[.ref l,.int 0 0] }).objs.size=Ii+1:=by rw[<- hI];exact size_push' ..
 rw[hS];have hlI:l≠Ii:=Nat.ne_of_lt hll;have hSI:Ii+1≠Ii:=Nat.ne_of_gt (Nat.lt_succ_self _);have hlS:l≠Ii+1:=Nat.ne_of_lt (Nat.lt_succ_of_lt hll);have hfI:f≠Ii:=Nat.ne_of_lt hfl;have hfS:f≠Ii+1:=Nat.ne_of_lt (Nat.lt_succ_of_lt hfl);refine wpAny_pure ⟨plainId_quiet PySem.F.plain_max_loop _,?_⟩;generalize hh2:(s.heap.push { cls:=.type "list_iterator",data:=.fields #[.ref l,.int 0 0] }).push (seqObj "list" #[] 0)=h2;have k2:∀b ob,s.heap.get? b=some ob->h2.get? b=some ob:=λb ob e=>by rw[<- hh2];exact Heap.get?_push_of_some _ (Heap.get?_push_of_some _ e)
 have gI:h2.get? Ii=some { cls:=.type "list_iterator",data:=.fields #[.ref l,.int 0 0] }:=by rw[<- hh2,<- hI];exact Heap.get?_push_of_some _ (Heap.get?_push_size _ rfl)
 have gS:h2.get? (Ii+1)=some (seqObj "list" #[] 0):=by rw[<- hh2,<- hS];exact Heap.get?_push_size _ rfl
 have fpI:∀H',H' Ii=none->lN X pins H' Ii:=λH' n=>I.fpOk (by rw[hI];exact Nat.le_refl _) n;have fpS:∀H',H' (Ii+1)=none->lN X pins H' (Ii+1):=λH' n=>I.fpOk (by rw[hI];exact Nat.le_succ _) n;have nI:H Ii=none:=I.hok.fresh (by rw[hI];exact Nat.le_refl _);have nS:H (Ii+1)=none:=I.hok.fresh (by rw[hI];exact Nat.le_succ _);have I2:∀tk,Inv X pins σ H { s with heap:=h2,toks:=tk }:=λtk=>I.kept k2;have W:=Walks.list (prog:=X.prog) (w:=X.w) (A:=X.A.in1) hh Ii l hlI its.toArray;obtain⟨u0,hu0,ru⟩:=rvs.get (i:=0) (x:=v0) rfl;refine codeAny_builtin PySem.F.entry_max_loop ?_;rw[Around.under_plainId PySem.F.plain_max_loop _];show wpAny _ X.A.in1 (seqItems? (.ref _)>>=_) _ _ _;refine wpAny_bind (wpAny_seqItems gS rfl ?_);show wpAny _ X.A.in1 (tryCatch (pyNext (.ref Ii)) _>>=_) _ _ _;refine wpAny_bind (wpAny_tryCatch (W.item 0 _ _ _ (by have:=(List.getElem?_eq_some_iff.1 hu0).1;simpa using this) ⟨⟨_,gI,rfl,rfl⟩,hl.at λo e=>k2 _ _ e⟩ λv h3 tk3 hP hst3 hk3=>?_));have hv:v=u0:=by
  have:its[0]?=some v:=by simpa using hP
  rw[hu0]at this;cases this;rfl
 subst hv;obtain⟨oI,hoI,hoc,hod⟩:=id hst3.1;have I3:Inv X pins σ H { s with heap:=h3,toks:=tk3 }:=Inv.turnedL (s:={ s with heap:=h2,toks:=s.toks }) (h':=h3) (t':=tk3) (ch:=[Ii]) (I2 s.toks) (λb ob hb e=>hk3 b ob hb e) (λb hb=>by rw[List.mem_singleton.1 hb];exact fpI H nI);have keep3:∀b ob,s.heap.get? b=some ob->h3.get? b=some ob:=λb ob e=>hk3 b ob (λz=>by rw[List.mem_singleton.1 z,<- hI]at e;exact absurd (Heap.lt_size e) (Nat.lt_irrefl _)) (k2 b ob e);have gS3:h3.get? (Ii+1)=some (seqObj "list" #[] 0):=hk3 _ _ (by simp) gS;show wpAny _ X.A.in1 (tryCatch (holding [v] (call (.ref f) [v])) _>>=_) _ _ _;have J:Inv { X with A:=X.A.in1 } pins σ H { s with heap:=h3,toks:=tk3 }:=I3.cx (A':=X.A.in1) (calm':=X.calm) (pn':=X.pn) (pins':=pins) (xe':=X.xe) (λp q=>q) rfl (λ_=>hh);have code:h3.CodeRec cd qual:=by obtain⟨c,oc,vs,t,u,rfl,e,d,q⟩:=hcd;obtain⟨e2,_⟩:=I3.hok c _ e;exact⟨c,oc,vs,t,rfl,e2,d,q⟩
 have call:=(sY (Y:={ X with A:=X.A.in1 }) (k:=j) (E:=λ_ _ _=>False) (te:=λσ H Q=>∃G ρ,StE X.K G H σ ρ/\∃d,gb ρ=.ok d/\∀v G' H',Up G H G' H'->Rep X.K G' v d->Q v H') (Q:=λv H'=>Same H H'/\∃G',Same G' H'/\Rep X.K G' v (.tup ks)) J hr.in1 (keep3 _ _ hf) hfd code (hp v) hco hge (hC _ _ I3) hx ru (λpins s σ H Q I ⟨G,ρ,st,d,e,h⟩=>by refine hb _ _ pins s σ H Q I ⟨G,ρ,st,?_⟩;rw[e];exact λv G' H' u r=>h v G' H' u r) ⟨G,_,st.consV hno r0,_,eg,λv G' H' u3 r3=>⟨u3.hh,G',u3.sub,r3⟩⟩).2;refine wpAny_bind (wpAny_tryCatch (wpAny_holding (wpAny_mono call (λkx s4 he=>?_) λe s' hF=>?_)))
 rotate_left
 ·obtain⟨_,_,_,_,_,z⟩:=hF;exact z.elim
 obtain⟨vk,H4,os4,bare4,un4,hok4,rk,sm4,G4,sg4,rp4⟩:=he;have I4:Inv X pins σ H4 s4:=I3.call' (s':=s4) (ch:=[]) os4 un4 hok4 bare4 (λb z=>absurd z (by simp));have noF:∀b,s.heap.objs.size<=b->b∉frs X.stack:=λb hb z=>by
  have:=I.stack;rcases List.mem_cons.1 (I.stkSub b z)with rfl|z;·exact absurd I.lt (Nat.not_lt.2 hb)
  ·exact I.nofs hb z
 have nfI:Ii∉frs X.stack:=noF _ (by rw[hI];exact Nat.le_refl _);have nfS:(Ii+1)∉frs X.stack:=noF _ (by rw[hI];exact Nat.le_succ _);have gS4:s4.heap.get? (Ii+1)=some (seqObj "list" #[] 0):=un4.keep _ _ gS3 nS nfS (by simp);have gI4:s4.heap.get? Ii=some oI:=un4.keep _ _ hoI nI nfI (by simp);obtain⟨o4,gf4,gd4⟩:=un4.data (keep3 _ _ hf) hfn (by simp);have nI4:H4 Ii=none:=un4.free _ _ hoI nI (by simp);have nS4:H4 (Ii+1)=none:=un4.free _ _ gS3 nS (by simp);have nf4:H4 f=none:=un4.free _ _ (keep3 _ _ hf) hfn (by simp);have s5:=Heap.SameBut.update s4.heap (Ii+1) (Obj.mapSeq λ_=>#[v,kx]);obtain⟨c5,hc5⟩:∃c5,(s4.heap.update (Ii+1) (Obj.mapSeq λ_=>#[v,kx])).get? (Ii+1)=some (seqObj "list" #[v,kx] c5):=⟨_,get?_update_seq gS4 λ_=>#[v,kx]⟩
 show wpAny _ X.A.in1 (updateSeq (Ii+1) (λ_=>#[v,kx])>>=_) _ _ _;refine wpAny_bind ?_;refine wpAny_updateSeq gS4 rfl ?_;rw[hname];have I5:Inv X pins σ H4 { s4 with heap:=s4.heap.update (Ii+1) (Obj.mapSeq λ_=>#[v,kx]) }:=Inv.turnedL (s:=s4) (t':=s4.toks) (ch:=[Ii+1]) I4 (λb ob hb e=>(s5.2 b (by simpa using hb)).trans e) (λb hb=>by rw[List.mem_singleton.1 hb];exact fpS H4 nS4);refine wpAny_pure ⟨plainId_quiet PySem.F.plain_max_loop _,?_⟩;exact zW (H0:=H) (G:=G) (vs:=v0::vr) (dd:=dd) (ρ':=ρ') hc hr hh hG hq hlI hSI hfS hfI hlS fpI fpS nfI nfS hcd hp hco hge hC hx hb st hno (λv u H' s' I' sm' rv' rp'=>⟨v,H',I',rv',hQ v H' sm' rp'⟩) ds vr 1 d0 v0 kb ks vk _ H4 G4 v kx c5 o4 (by simp) rfl rr em I5 sm4 hc5 ⟨oI,(s5.2 Ii (Ne.symm hSI)).trans gI4,hoc,hod⟩ nI4 nS4 ((s5.2 f hfS).trans gf4) (gd4.trans hfd) nf4 ru r0 rk sg4 rp4 ek
end
noncomputable def lA(key:D->R D)(x:D)(xs:List D):R D:=match key x with
 |.ok (.tup ks)=>match fJ ks with
  |some kb=>oz key x kb xs
  |none=>.no
 |_=>.no
def uw{key:D->R D}:∀{xs:List D}{b:D}{kb:List Int},(∃d,oz key b kb xs=.ok d)\/oz key b kb xs=.no
 | [],b,kb=>.inl ⟨_,rfl⟩
 |x::xs,b,kb=>by
  unfold oz;split
  ·split
   ·split
    ·split;·exact uw
     ·exact uw
    ·exact .inr rfl
   ·exact .inr rfl
  ·exact .inr rfl
def Az{x:D}{xs:List D}:(∃ks kb d,key x=.ok (.tup ks)/\fJ ks=some kb/\oz key x kb xs=.ok d/\lA key x xs=.ok d)\/lA key x xs=.no:=by
 unfold lA;split
 ·rename_i ks e;split
  ·rename_i kb ek;rcases uw (key:=key) (xs:=xs) (b:=x) (kb:=kb)with⟨d,h⟩|h;·exact .inl ⟨ks,kb,d,e,ek,h,h⟩
   ·exact .inr h
  ·exact .inr rfl
 ·exact .inr rfl
noncomputable def A9(ga:Ev->R D)(ix:List Nat)(gb:Ev->R D):Ev->R D:=λρ=>ga ρ>>=λd=>match d with
 |.lst _ (x::xs)=>lA (λd=>gb (some (.val d)::de 0 ix ρ)) x xs
 |_=>.no
section
variable{a:Expr}{ga:Ev->R D}{params:Arguments}{body:Expr}{lp p kp:Pos}
def Hg(hc:X.calm=true)(hg:Gl X "max")(hm:X.mg "max"=none)(hr:Room (j+2) X.A)(L:LamAt X)(ha:PF X a ga)(ok:LamOk X scope N' ix)(hb:∀(cl:List (Str×Addr))(f:Addr)(cd:Value)(A:Around)(outer:List Env)(s:Shared)(H:Hp)(E:XK),Room j (A.deeper (PySem.W.envX (X.env.qual++"<lambda>") scope s.heap.objs.size f cd cl))->PF (qY X.prog X.w X.K X.mg X.base (x::N') (X.env.qual++"<lambda>") scope cl f cd A outer s H E) body gb)(hx:scope.names.lookup x=some .local:=by rfl)(hp:∀cl pm cd ctv u,bindArgs (PySem.W.kla_fn "<lambda>" (X.env.qual++"<lambda>") params body scope cl pm cd ctv) ⟨[u],[]⟩=pure [(x,u)]:=by intros;rfl)(hdef:defaultsOf params X.env=([],[]):=by rfl)(hs:starEach [a] X.env=(false,eval a X.env)::starEach [] X.env:=by rfl)(hall:(backToKw pos (keywordEach [⟨some "key",.Lambda params body scope lp,kp⟩] X.env)).all (·.1.isSome)=true:=by rfl)(hks:(backToKw pos (keywordEach [⟨some "key",.Lambda params body scope lp,kp⟩] X.env)).filterMap (·.1)=[("key":Str)]:=by rfl)(hpl:((backTo pos (starEach [a] X.env)).any (·.1) || (backToKw pos (keywordEach [⟨some "key",.Lambda params body scope lp,kp⟩] X.env)).any (·.1.isNone))=false:=by rfl):
  PF X (.Call (.Name "max" p) [a] [⟨some "key",.Lambda params body scope lp,kp⟩] pos) (A9 ga ix gb):=by
 obtain⟨c,P,q,hcc,hcd,hT,rfl,hbm,hgP⟩:=L.ex;intro pins s σ H Q I h;obtain⟨G,ρ,st,h⟩:=h;have ta:zS (tF X ga) JS σ H (λvs H1=>∃v,vs=[v]/\∃G1 d,Up G H G1 H1/\StE X.K G1 H1 σ ρ/\Rep X.K G1 v d/\(match d with|.lst _ (x::xs)=>lA (λd=>gb (some (.val d)::de 0 ix ρ)) x xs|_=>.no:R D).post (Fin G1 H1 (Rep X.K) Q) (Exx X σ G1 H1)):=
  tG.intro st h λd v G1 H1 u1 st1 r1 h1=>⟨v,rfl,G1,d,u1,st1,r1,h1⟩
 refine wpAny_Call_Name_kw (jk I hg hm PyProof.Rows.Boot.«max» ?_ (by decide) (by decide));refine PySem.W.callWith_of (P:=λ_=>True) hpl (λh _=>by first|exact⟨_,.inl rfl,PySem.W.Looks.of_pure rfl⟩|exact⟨_,.inr (.inl rfl),PySem.W.Looks.of_pure rfl⟩|exact⟨_,.inr (.inr rfl),PySem.W.Looks.of_pure rfl⟩) (evalArgs_kw2 hall (thn ((du ha iy hs) pos pins s σ H _ I ta) λus s1 ⟨vs,H1,I1,r1,q1⟩=>?_) hs);obtain⟨v,hv,G1,d,u1,st1,rd,h1⟩:∃v,vs=[v]/\∃G1 d,Up G H G1 H1/\StE X.K G1 H1 σ ρ/\Rep X.K G1 v d/\(match d with|.lst _ (x::xs)=>lA (λd=>gb (some (.val d)::de 0 ix ρ)) x xs|_=>.no:R D).post (Fin G1 H1 (Rep X.K) Q) (Exx X σ G1 H1):=q1;subst hv;obtain⟨u,rfl,rv⟩:=r1.one;show wpAny _ _ (evalAll ((do let v <- eval (.Lambda params body scope lp) X.env;standAt pos;pure v)::(backToKw pos (keywordEach [] X.env)).map (·.2))) _ _ s1;obtain⟨more,hTH⟩:=I1.ok.tabs.un I1.base P _ hT;refine wpAny_evalAll_cons (wpAny_bind (CP I1 hdef hcc (hcd _ I1.kIn) hTH ?_ (hbm.keeps I1.bk) ok.fr hgP λf cd ctv pm H2 s2 L=>wpAny_bind (wpAny_standAt (wpAny_pure (wpAny_evalAll_nil ⟨trivial,?_⟩)))));·unfold zg;rw[Array.toList_append];rfl
 rw[hks];have sub2:Same G1 H2:=st1.sub.trans L.hh;have up2:Up G1 H1 G1 H2:=⟨sub2,.refl _,L.hh,λa o h=>.inl h⟩
 have st2:=pU (st1.up up2) 0 ix;have fin:∀{l:Addr}{v0:V}{vr:List V}{x0:D}{ds:List D},u=.ref l->SqL X.K G1 l (v0::vr)->Rep X.K G1 v0 x0->Reps X.K G1 vr ds->(lA (λd=>gb (some (.val d)::de 0 ix ρ)) x0 ds).post (Fin G1 H1 (Rep X.K) Q) (Exx X σ G1 H1)->
   wpAny (model X.prog X.w) X.A (call (.builtin "max") [u] [(Str.ofString "key",.ref f)]) (EP X pins σ Q) X.xe s2:=by
  intro l v0 vr x0 ds eu hq r0 rr h0;subst eu;rcases Az (key:=λd=>gb (some (.val d)::de 0 ix ρ)) (x:=x0) (xs:=ds)with⟨ks,kb,dd,eg,ek,em,e1⟩|e1
  ·rw[e1]at h0;exact yE (x:=x) hc hr L.inv sub2 hq r0 rr L.fn L.free rfl L.codeH (hp _ _ _ _) ok.co ok.gen (λH s I=>EI ok I) hx (λs' H'=>hb _ f cd X.A.in1 X.stack s' H' _ (hr.in1.deeper _)) st2 jZ eg ek em λv H' sm rp=>h0 v G1 H' ⟨sub2.trans sm,.refl _,L.hh.trans sm,λa o h=>.inl h⟩ rp
  ·rw[e1]at h0;exact h0.elim
 cases rd with
 |lst hq t=>
  cases rv;cases t with
  |nil=>exact h1.elim
  |cons r0 t=>exact fin rfl (.of hq) r0 t h1
 |fls hq t=>
  cases rv;cases t with
  |nil=>exact h1.elim
  |cons r0 t=>exact fin rfl hq r0 t h1
 |_=>exact h1.elim
end
noncomputable def J6:D->List Int->List D->Option D
 |b,_,[]=>some b
 |b,kb,.tup ks::xs=>match fJ ks with
  |some kx=>if kb.length=kx.length then (if hZ kb kx then J6 (.tup ks) kx xs else J6 b kb xs)else none
  |none=>none
 |_,_,_=>none
noncomputable def Lu:List D->Option D
 | [.lst _ (.tup ks::xs)]=>match fJ ks with
  |some kb=>J6 (.tup ks) kb xs
  |none=>none
 |_=>none
noncomputable def lh(c:Nat)(x:List Nat):List Nat:=(x.drop (x.takeWhile (·==c)).length).take (x.length - ((x.drop (x.takeWhile (·==c)).length).reverse.takeWhile (·==c)).length - (x.takeWhile (·==c)).length)
def vM{c:Nat}:(Txt.stripChars x ⟨#[c]⟩).cps.toList=lh c x.cps.toList:=by
 have g:(⟨#[c]⟩:Str).cps.contains=λd=>(d==c):=by funext d;simp[Array.contains]
 unfold Txt.stripChars;rw[PyProof.Rows.stripBy_eq,g];unfold Builtin.Str.strSub stripLo stripHi lh;simp[List.extract_eq_drop_take,Str.length]
section
variable{e o:Expr}{ga:Ev->R D}
noncomputable def dI:D->List D->Option D
 |.str x,[.str [c]]=>some (.str (lh c x))
 |_,_=>none
def AI(K:PySem.W.Frag):JU K "str" D1 dI:=by
 intro G H x xs dx ds d Q s rx rs e q;unfold dI at e;split at e;·rename_i x0 c;cases e;obtain⟨v,rfl,r1⟩:=rs.one;obtain⟨i,rfl,ei,hi⟩:=rx.str_inv;obtain⟨j,rfl,ej,hj⟩:=r1.str_inv;subst ei;have:j=⟨#[c]⟩:=(Str.of_list ej).symm;subst this;refine⟨i,c,rfl,rfl,hi,?_⟩;refine q _ G H (.refl s) (.strL vM ?_);have:=PyProof.Rows.len_stripChars i ⟨#[c]⟩;rw[<- vM,Str.len_list];omega
 ·cases e
def pA{ap cp:Pos}(ho:PF X o ga)(ha:PFA X [e] gl)(hbase:attributeBase o "strip" X.env (eval o X.env)=eval o X.env:=by rfl)(hfew:((backTo cp (starEach [e] X.env)).all (λx=>!x.1) && (backToKw cp (keywordEach [] X.env)).all (λx=>x.1.isSome)
 && decide ([e].length+([]:List Keyword).length+(if ([]:List Keyword).isEmpty then 0 else 1)<30))=true:=by rfl)(hline:(ap.endLine==cp.line)=true:=by rfl)(hs:starEach [e] X.env=(false,eval e X.env)::starEach [] X.env:=by rfl):
  PF X (.Call (.Attribute o "strip" ap) [e] [] cp) (im "str" dI ga gl):=tO PySem.F.plainAttrs_str PySem.F.slot_str_strip PySem.F.type_str_strip Bl (AI _) ho ha hbase hfew hline hs rfl
end
noncomputable def Hd(ds:List D):R D:=ca ds>>=λxs=>if xs.length<=1000 then .ok (.lst false xs)else .no
noncomputable def ET(gl:Ev->R (List D)):Ev->R D:=λρ=>gl ρ>>=Hd
end L2
namespace L2
open PySem PySem.Spec PyProof.Rows
section
variable{elt:Expr}{ifs:List Expr}{px:Pos}{gt:Ev->R Bool}
structure CompOkC(X:Cx)(scope:Scope)(x:Str):Prop where
 kind:scope.kind=.function
 names:∀y∈scope.names,y.2=.local->scope.names.lookup y.1=some .local
 nofree:∀y∈scope.names,y.2≠.free
 cells:∀L,cellsFrom L scope.names []=[(x,L)]
 lk:scope.names.lookup x=some .cell
 only:∀y,scope.names.lookup y=some .cell->y=x
end
noncomputable abbrev TF:=List (Nat×Fd)->Option (List (Nat×Fd))
noncomputable def spT(K:PySem.W.Frag)(C:Addr)(F:TF):Sp:=λvs H Q E=>∃G p fs ow,vs=[.ref p]/\Same G H/\(∀a t,ow a=some t->G a=none)/\ObjAt K (λ_=>none) G H ow 0 true C p fs/\
 ∃fs',F fs=some fs'/\∀x G' H' ow',Up G H G' H'->ObjAt K H G' H' ow' 0 true C x fs'->Q (.ref x) H'
noncomputable abbrev FnT(P:Program)(w:World)(K:PySem.W.Frag)(mg:Str->Option Value)(base:Heap)(k:Nat)(f:Addr)(fd:FuncData)(ps:List Str)(C:Addr)(F:TF):Prop:=FnOk P w K mg base (CXo P w) k f fd ps (λvs H Q E=>vs.length=ps.length/\spT K C F vs H Q E)
structure TCallee(P:Program)(w:World)(K:PySem.W.Frag)(mg:Str->Option Value)(base:Heap)(C:Addr)(mn:Str)(k:Nat)(F:TF):Prop where
 ex:∃f fd ps,FnT P w K mg base k f fd ps C F/\Meth K C mn f/\Binds K fd ps []/\ps.length=1
noncomputable def tI:D->Option Nat
 |.tup [.bl a,.bl b]=>some (code a b)
 |_=>none
noncomputable def fvs:List (Nat×Fd)->Option (List (Nat×D))
 | []=>some []
 | (k,.val d)::r=>(fvs r).map ((k,d)::·)
 | (_,.own _)::_=>none
noncomputable def rW(ρ:Ev)(i:Nat):R (List (Nat×D)):=match ρ[i]? with
 |some (some (.val (.dct ks ds)))=>.ok (ks.zip ds)
 |some (some (.obj _ C _ fs))=>if C=DC then ofO (fvs fs)else .no
 |_=>.no
def AJ(e:rW ρ i=.ex C):False:=by
 unfold rW at e;split at e;·cases e
 ·split at e;·revert e;unfold ofO;split <;> exact λz=>nomatch z
  ·cases e
 ·cases e
def uk:∀(ks:List Nat)(ds:List D),fvs (ks.zip (ds.map Fd.val))=some (ks.zip ds)
 | [],_=>rfl
 |_::_,[]=>rfl
 |k::ks,d::ds=>by simp only[List.map_cons,List.zip_cons_cons,fvs,uk ks ds,Option.map_some]
def vE:∀a b c d:Bool,code a b=code c d->a=c/\b=d:=by decide
section
variable{K:PySem.W.Frag}
def KeysAt.inH(s:Same G H):∀{xs:DX}{ks:List Nat},KeysAt K G xs ks->iB K H xs
 |_,_,.nil,x,hx=>nomatch hx
 |_,_,.cons h t,x,hx=>by
  rcases List.mem_cons.1 hx with rfl|hx;·exact h.mono s
  ·exact KeysAt.inH s t x hx
def KeysAt.twos:∀{xs:DX}{ks:List Nat},KeysAt K G xs ks->Kr xs
 |_,_,.nil,x,hx=>nomatch hx
 |_,_,.cons h t,x,hx=>by
  rcases List.mem_cons.1 hx with rfl|hx;·exact⟨_,_,rfl⟩
  ·exact KeysAt.twos t x hx
def KeysAt.length:∀{xs:DX}{ks:List Nat},KeysAt K G xs ks->xs.length=ks.length
 |_,_,.nil=>rfl
 |_,_,.cons _ t=>by simp[t.length]
def KeysAt.look{a b:Bool}:∀{xs:DX}{ks:List Nat}{ds:List D},KeysAt K G xs ks->Reps K G (xs.map (·.2.2)) ds->
  ((ks.zip ds).lookup (code a b)=none/\nT xs [a,b]=none)\/∃d v,(ks.zip ds).lookup (code a b)=some d/\nT xs [a,b]=some v/\Rep K G v d
 |_,_,_,.nil,.nil=>.inl ⟨rfl,rfl⟩
 |_,_,_,.cons (a:=c) (b:=e) h t,.cons r q=>by
  by_cases z:[c,e]=[a,b]
  ·cases z;exact .inr ⟨_,_,by simp[List.lookup_cons],by simp[nT,List.find?_cons],r⟩
  ·have z':(code a b==code c e)=false:=beq_eq_false_iff_ne.2 λy=>z (by obtain⟨rfl,rfl⟩:=vE _ _ _ _ y;rfl);rcases t.look q with⟨e1,e2⟩|⟨d,v,e1,e2,e3⟩;·exact .inl ⟨by simp only[List.zip_cons_cons,List.lookup_cons,z'];exact e1,by unfold nT at e2⊢;simp only[List.find?_cons,z,decide_false];exact e2⟩
   ·exact .inr ⟨d,v,by simp only[List.zip_cons_cons,List.lookup_cons,z'];exact e1,by unfold nT at e2⊢;simp only[List.find?_cons,z,decide_false];exact e2,e3⟩
def lO{n:Nat}(e:tI d=some n)(r:Rep K G v d):∃q a b,v=.ref q/\n=code a b/\SqT K G q [.bl a,.bl b]:=by
 unfold tI at e;split at e
 ·rename_i a b;cases e;obtain⟨q,vs,rfl,hq,rs⟩:=r.tup_inv;cases rs with
  |cons r1 t=>
   cases t with
   |cons r2 t=>cases t;obtain rfl:=r1.bl_inv;obtain rfl:=r2.bl_inv;exact⟨q,a,b,rfl,rfl,hq⟩
 ·cases e
def StE.dct{σ:St}{ρ:Ev}{i:Nat}{kv:List (Nat×D)}(st:StE K G H σ ρ)(e:rW ρ i=.ok kv):
  ∃a o xs ks ds,σ[i]?=some (some (.ref a))/\H a=some (DctO a o xs)/\KeysAt K G xs ks/\Reps K G (xs.map (·.2.2)) ds/\kv=ks.zip ds:=by
 unfold rW at e;split at e
 ·rename_i ks ds q;cases e;obtain⟨v,h1,r⟩:=st.val i _ q;cases r with
  |dct h k r=>exact⟨_,_,_,ks,ds,h1,st.sub _ _ h,k,r,rfl⟩
 ·rename_i m C p fs q;split at e;·rename_i z;obtain⟨h1,ow,ob⟩:=st.obs i m C p fs q;rw[z]at ob;obtain⟨o,xs,ks,ds,g1,g2,g3,g4,g5,g6,g7⟩:=ob.dco;rw[g7,uk]at e;cases e;exact⟨p,o,xs,ks,ds,h1,g1,g5,g6,rfl⟩
  ·cases e
 ·cases e
end
section
variable{e:Expr}{ga:Ev->R D}{p:Pos}
noncomputable def LV(K:PySem.W.Frag)(neg:Bool):R2:=λx y H Q=>∃q k a o xs,x=.ref q/\y=.ref a/\H a=some (DctO a o xs)/\iB K H xs/\SqT K H q (k.map V.bl)/\Q (.bl (if neg then !(nT xs k).isSome else (nT xs k).isSome)) H
def IP(hu:X.A.units+64<cLine):OpR X (compareOp .In) (LV X.K false):=by intro pins s σ H x y v u Q I rx ry ⟨q,k,a,o,xs,ex,ey,h1,h2,h3,h4⟩;subst ex ey;cases rx;cases ry;exact Ju (by omega) I h1 h2 h3 λs' I'=>⟨.bl _,H,I',rfl,h4⟩
def Fh(hu:X.A.units+64<cLine):OpR X (compareOp .NotIn) (LV X.K true):=by intro pins s σ H x y v u Q I rx ry ⟨q,k,a,o,xs,ex,ey,h1,h2,h3,h4⟩;subst ex ey;cases rx;cases ry;exact zc (by omega) I h1 h2 h3 λs' I'=>⟨.bl _,H,I',rfl,h4⟩
noncomputable def qP(neg:Bool)(i:Nat)(ge:Ev->R D):Ev->R Bool:=λρ=>ge ρ>>=λd=>ofO (tI d)>>=λn=>rW ρ i>>=λkv=>.ok (if neg then !(kv.lookup n).isSome else (kv.lookup n).isSome)
def ww{Q:Bool->Hp->Prop}(h:tTF X (qP neg i ge) σ H Q):Es (tOp (LV X.K neg) (tF X ge) (DE i)) σ H Q:=by
 obtain⟨G,ρ,st,h⟩:=h;refine tG.intro st h λd v G1 H1 u1 st1 r1 h1=>?_;obtain⟨n,e1,h1⟩:∃n,tI d=some n/\(rW ρ i>>=λkv=>R.ok (if neg then !(kv.lookup n).isSome else (kv.lookup n).isSome)).post (Fin G1 H1 (λ_ b c=>b=c) Q) (Exx X σ G1 H1):=by
  cases q:tI d with
  |none=>rw[q]at h1;exact h1.elim
  |some n=>rw[q]at h1;exact⟨n,rfl,h1⟩
 cases q0:rW ρ i with
 |ok kv=>
  rw[q0]at h1;obtain⟨q,a,b,rfl,rfl,hq⟩:=lO e1 r1;obtain⟨c,o,xs,ks,ds,g1,g2,g3,g4,rfl⟩:=st1.dct q0;refine⟨.ref c,g1,q,[a,b],c,o,xs,rfl,rfl,g2,g3.inH st1.sub,hq.mono st1.sub,_,rfl,?_⟩;have e2:(nT xs [a,b]).isSome=((ks.zip ds).lookup (code a b)).isSome:=by rcases g3.look g4 with⟨y1,y2⟩|⟨d,v,y1,y2,_⟩ <;> rw[y1,y2] <;> rfl
  rw[e2];exact h1 _ G1 H1 (.refl st1.sub) rfl
 |ex C=>exact(AJ q0).elim
 |no=>rw[q0]at h1;exact h1.elim
def BK(i:Nat)(hu:X.A.units+64<cLine)(he:PF X e ge)(hi:X.N[i]?=some x:=by rfl)(hv:Vis X.env.scope x:=by first|exact Or.inl rfl|exact Or.inr (Or.inl rfl)|exact Or.inr (Or.inr rfl))(hd:(x==("__debug__":Str))=false:=by decide)(hcd:(x==("__classdict__":Str))=false:=by decide)(hm:behindInMarks .In (.Name x p)=false:=by rfl):PB X (.Compare e [.In] [.Name x p] pos) (qP false i ge):=λpins s σ H Q I h=>
 vx (IP hu) he (dv hi hv hd hcd) hm pins s σ H Q I (ww h)
def IM(i:Nat)(hu:X.A.units+64<cLine)(he:PF X e ge)(hi:X.N[i]?=some x:=by rfl)(hv:Vis X.env.scope x:=by first|exact Or.inl rfl|exact Or.inr (Or.inl rfl)|exact Or.inr (Or.inr rfl))(hd:(x==("__debug__":Str))=false:=by decide)(hcd:(x==("__classdict__":Str))=false:=by decide)(hm:behindInMarks .NotIn (.Name x p)=false:=by rfl):PB X (.Compare e [.NotIn] [.Name x p] pos) (qP true i ge):=λpins s σ H Q I h=>
 vx (Fh hu) he (dv hi hv hd hcd) hm pins s σ H Q I (ww h)
noncomputable def Lk(K:PySem.W.Frag):R2:=λx y H Q=>∃a o xs q k v,x=.ref a/\y=.ref q/\H a=some (DctO a o xs)/\iB K H xs/\SqT K H q (k.map V.bl)/\nT xs k=some v/\Q v H
def JM(hu:X.A.units+64<cLine):IxR X (Lk X.K):=by intro value slice pins s σ H x y v u Q I rx ry ⟨a,o,xs,q,k,w,ex,ey,h1,h2,h3,h4,h5⟩ hs;subst ex ey;cases rx;cases ry;obtain⟨g1,_,_,g2,_⟩:=mR I h1;exact tail_any (T:="dict") ⟨o,g1,g2.1⟩ PySem.F.slot_dict_getitem.lookup (FD (by omega) I h1 h2 h3 h4 λw' s' I' r=>⟨w,H,I',r,h5⟩) hs
noncomputable def iq(i:Nat)(ge:Ev->R D):Ev->R D:=λρ=>rW ρ i>>=λkv=>ge ρ>>=λd=>ofO ((tI d).bind λn=>kv.lookup n)
def sG(i:Nat)(hu:X.A.units+64<cLine)(he:PF X e ge)(hi:X.N[i]?=some x:=by rfl)(hv:Vis X.env.scope x:=by first|exact Or.inl rfl|exact Or.inr (Or.inl rfl)|exact Or.inr (Or.inr rfl))(hd:(x==("__debug__":Str))=false:=by decide)(hcd:(x==("__classdict__":Str))=false:=by decide)(hs:pL e:=by intro _ _;rfl):PF X (.Subscript (.Name x p) e pos) (iq i ge):=λpins s σ H Q I h=>by
 refine Fc (JM hu) (dv hi hv hd hcd) he hs pins s σ H Q I ?_;obtain⟨G,ρ,st,h⟩:=h;have h:(rW ρ i>>=λkv=>ge ρ>>=λd=>ofO ((tI d).bind λn=>kv.lookup n)).post (Fin G H (Rep X.K) Q) (Exx X σ G H):=h;cases q:rW ρ i with
 |ok kv=>
  rw[q]at h;obtain⟨c,o,xs,ks,ds,g1,g2,g3,g4,rfl⟩:=st.dct q;refine⟨.ref c,g1,tG.intro st h λd v G1 H1 u1 st1 r1 h1=>?_⟩;obtain⟨w,e2,h1⟩:=ofO.ok h1;cases e1:tI d with
  |none=>rw[e1]at e2;cases e2
  |some n=>
   rw[e1]at e2;have e2:(ks.zip ds).lookup n=some w:=e2;obtain⟨q,a,b,rfl,rfl,hq⟩:=lO e1 r1;rcases g3.look g4 with⟨y1,_⟩|⟨d',v',y1,y2,y3⟩;·rw[y1]at e2;cases e2
   ·rw[y1]at e2;cases e2;exact⟨c,o,xs,q,[a,b],v',rfl,rfl,u1.hh _ _ g2,λz hz=>(g3.inH st.sub z hz).mono u1.hh,hq.mono st1.sub,y2,h1 v' G1 H1 (.refl st1.sub) (y3.mono u1.gg)⟩
 |ex C=>exact(AJ q).elim
 |no=>rw[q]at h;exact h.elim
end
section
variable{K:PySem.W.Frag}{a b:Bool}
def KeysAt.same:∀{xs:DX}{ks:List Nat},KeysAt K G xs ks->[a,b]∉xs.map (·.1)->xs.map (λx=>if x.1=[a,b]then (x.1,x.2.1,v)else x)=xs
 |_,_,.nil,_=>rfl
 |_,_,.cons (a:=c) (b:=e) h t,n=>by rw[List.map_cons,List.mem_cons,not_or]at n;rw[List.map_cons,if_neg (λz=>n.1 z.symm),t.same n.2]
def zx{n:Nat}{fd:Fd}:∀{fs:List (Nat×Fd)},fs.lookup n=none->jm n fd fs=fs++[(n,fd)]
 | [],_=>rfl
 | (k,f)::fs,h=>by
  have ne:(n==k)=false:=by
   cases z:n==k with
   |false=>rfl
   |true=>simp only[List.lookup_cons,z]at h;cases h
  simp only[List.lookup_cons,ne]at h;unfold jm;rw[if_neg (λz=>by rw[z]at ne;simp at ne),zx h];rfl
def KeysAt.snoc:∀{xs:DX}{ks:List Nat},KeysAt K G xs ks->SqT K G q [.bl a,.bl b]->KeysAt K G (xs++[([a,b],q,v)]) (ks++[code a b])
 |_,_,.nil,h=>.cons h .nil
 |_,_,.cons h t,z=>.cons h (t.snoc z)
def mJ{n:Nat}:∀{ks:List Nat}{ds:List D},(ks.zip ds).lookup n=none->(ks.zip (ds.map Fd.val)).lookup n=none
 | [],_,_=>rfl
 |_::_,[],_=>rfl
 |k::ks,d::ds,h=>by
  rw[List.zip_cons_cons,List.lookup_cons]at h;rw[List.map_cons,List.zip_cons_cons,List.lookup_cons];cases z:n==k with
  |true=>rw[z]at h;cases h
  |false=>rw[z]at h;exact mJ h
def KeysAt.over:∀{xs:DX}{ks:List Nat}{ds:List D},KeysAt K G xs ks->Reps K G (xs.map (·.2.2)) ds->(xs.map (·.1)).Nodup->(nT xs [a,b]).isSome=true->Rep K G v d->
  KeysAt K G (xs.map λx=>if x.1=[a,b]then (x.1,x.2.1,v)else x) ks/\∃ds',Reps K G ((xs.map λx=>if x.1=[a,b]then (x.1,x.2.1,v)else x).map (·.2.2)) ds'/\jm (code a b) (.val d) (ks.zip (ds.map Fd.val))=ks.zip (ds'.map Fd.val)
 |_,_,_,.nil,.nil,_,h,_=>by cases h
 |_,_,_,.cons (a:=c) (b:=e) (ks:=ks) (xs:=ys) h t,.cons (ds:=ds) r1 r2,n,hv,r=>by
  rw[List.map_cons,List.nodup_cons]at n;by_cases z:[c,e]=[a,b]
  ·cases z;rw[List.map_cons,if_pos rfl,t.same n.1];exact⟨.cons h t,d::ds,.cons r r2,by simp[jm]⟩
  ·have z':code c e≠code a b:=λy=>z (by obtain⟨rfl,rfl⟩:=vE _ _ _ _ y;rfl);have hv':(nT ys [a,b]).isSome=true:=by unfold nT at hv⊢;simpa only[List.find?_cons,z,decide_false]using hv
   obtain⟨k1,ds',k2,k3⟩:=t.over r2 n.2 hv' r;rw[List.map_cons,if_neg z];refine⟨.cons h k1,_::ds',.cons r1 k2,?_⟩;simp only[List.map_cons,List.zip_cons_cons,jm,if_neg z',k3]
def KeysAt.put{xs:DX}(k:KeysAt K G xs ks)(rs:Reps K G (xs.map (·.2.2)) ds)(n:(xs.map (·.1)).Nodup)(hq:SqT K G q [.bl a,.bl b])(r:Rep K G v d):
  ∃ks' ds',KeysAt K G (Bj xs [a,b] q v) ks'/\Reps K G ((Bj xs [a,b] q v).map (·.2.2)) ds'/\jm (code a b) (.val d) (ks.zip (ds.map Fd.val))=ks'.zip (ds'.map Fd.val):=by
 unfold Bj;by_cases z:(nT xs [a,b]).isSome=true;·rw[if_pos z];obtain⟨k1,ds',k2,k3⟩:=k.over rs n z r;exact⟨ks,ds',k1,k2,k3⟩
 ·rw[if_neg z];refine⟨ks++[code a b],ds++[d],k.snoc hq,?_,?_⟩;·rw[List.map_append];exact rs.append (.cons r .nil)
  ·rcases k.look (a:=a) (b:=b) rs with⟨y1,_⟩|⟨_,_,_,y2,_⟩
   ·have ln:ks.length=(ds.map Fd.val).length:=by rw[List.length_map,<- rs.length,List.length_map,k.length]
    rw[zx (mJ y1),List.map_append,List.zip_append ln];rfl
   ·rw[y2]at z;exact absurd rfl z
end
def DRel.keys:∀{xs:DX}{us:DU},DRel xs us->xs.map (·.1)=us.map (·.1)
 |_,_,.nil=>rfl
 |_,_,.cons h t=>by rw[List.map_cons,List.map_cons,h.1,DRel.keys t]
noncomputable def Kh(K:PySem.W.Frag):JN:=λx y v H Q=>∃a o xs q k,x=.ref a/\y=.ref q/\H a=some (DctO a o xs)/\iB K H xs/\SqT K H q (k.map V.bl)/\xs.length<sizeLine/\((xs.map (·.1)).Nodup->∀o',Q (upd H a (DctO a o' (Bj xs k q v))))
section
variable{e ix:Expr}{ga gk:Ev->R D}{p tp:Pos}
def Fx(hu:X.A.units+64<cLine):KU X (Kh X.K):=by intro pins s σ H o i v ov iv u Q I ro ri rv ⟨a,ob,xs,q,k,eo,ei,h1,h2,h3,h4,h5⟩;subst eo ei;cases ro;cases ri;obtain⟨_,_,_,_,us,r,_,_,_,_,n⟩:=mR I h1;rw[<- DRel.keys r]at n;exact Fr (by omega) I h1 h2 h3 h4 rv λo' s' I'=>⟨_,I',h5 n o'⟩
noncomputable def BU(i:Nat)(gk ga:Ev->R D):Ev->O:=λρ=>(pS DC ρ i).out ρ λo=>(fw (ga ρ)).out ρ λd=>(fw (gk ρ)).out ρ λk=>match tI k with
 |some n=>if o.2.length<900 then .nx (ρ.set i (some (.obj true DC o.1 (jm n (.val d) o.2))))else .no
 |none=>.no
def JG(i:Nat)(hu:X.A.units+64<cLine)(he:PF X e ga)(hk:PF X ix gk)(hi:X.N[i]?=some x:=by rfl)(hv:Vis X.env.scope x:=by first|exact Or.inl rfl|exact Or.inr (Or.inl rfl))(hd:(x==("__debug__":Str))=false:=by decide)(hcd:(x==("__classdict__":Str))=false:=by decide)(hs:swapsWithSole [.Subscript (.Name x p) ix tp] e pos.line X.env=pure false:=by rfl)(hw:swappedStores [.Subscript (.Name x p) ix tp] e X.env=pure none:=by rfl)(h1':(assignEach [.Subscript (.Name x p) ix tp] X.env).map (·.2)=[assign (.Subscript (.Name x p) ix tp) X.env]:=by rfl)(ha:∀v,assign (.Subscript (.Name x p) ix tp) X.env v=(do
 let ov <- holding [v] (eval (.Name x p) X.env);let iv <- holding [v,ov] (eval ix X.env)
 standAt tp
 holding [v,ov,iv] (setItem ov iv v)
 release [v,ov,iv] []):=by intro _;rfl):
  PSF X (.Assign [.Subscript (.Name x p) ix tp] e pos) (BU i gk ga):=λG₀ H₀ pins s σ H D I ⟨G,ρ,sr,h⟩=>by
 refine jf he (DD (dv hi hv hd hcd) hk (Fx hu) ha) hs hw h1' pins s σ H D I ⟨G,ρ,sr.e,?_⟩;obtain⟨pp,fs,e1,h⟩:=kR h;obtain⟨hσ,_⟩:=sr.e.obs i true DC pp fs e1;cases q1:ga ρ with
 |ok d=>
  rw[q1]at h;intro v G1 H1 u1 r1;show LY _ _ _ v σ H1 _;refine⟨.ref pp,hσ,G1,ρ,(sr.ups u1).e,?_⟩;cases q2:gk ρ with
  |ok k=>
   rw[q2]at h;intro kv G2 H2 u2 r2;have sr2:=(sr.ups u1).ups u2;obtain⟨ow,o1,o2⟩:=sr2.ob;obtain⟨ob,xs,ks,ds,g1,g2,g3,g4,g5,g6,g7⟩:=(o2 i true DC pp fs e1).2.dco;have h:jH X G₀ H₀ D (match tI k with
    |some n=>if fs.length<900 then .nx (ρ.set i (some (.obj true DC pp (jm n (.val d) fs))))else .no
    |none=>.no):=h;cases q3:tI k with
   |none=>rw[q3]at h;exact h.elim
   |some n=>
    rw[q3]at h;have h:jH X G₀ H₀ D (if fs.length<900 then .nx (ρ.set i (some (.obj true DC pp (jm n (.val d) fs))))else .no):=h;by_cases hz:fs.length<900
    ·rw[if_pos hz]at h;obtain⟨q,a,b,rfl,rfl,hq⟩:=lO q3 r2;have xl:xs.length=fs.length:=by have l1:=g5.length;have l2:=g6.length;rw[List.length_map]at l2;rw[g7,List.length_zip,List.length_map];omega
     have lb:900<sizeLine:=by decide
     refine⟨pp,ob,xs,q,[a,b],rfl,rfl,g1,g5.inH sr2.e.sub,hq.mono sr2.e.sub,by omega,λnd o'=>h σ G2 _ ?_⟩;obtain⟨ks',ds',k1,k2,k3⟩:=g5.put g6 nd hq (r1.mono u2.gg);have np:∀c o,H₀ c=some o->c≠pp:=λc o z=>aP z (g3 rfl);refine sr2.objTo e1 o1 o2 (ow2:=ow) (λc o z nt=>?_) (λc o z=>?_) (λc o z=>?_) (λ_ _ _ _ _ z _=>z) (.inr ⟨rfl,o',_,ks',ds',aS,g2,g3,g4,k1,k2,by rw[g7];exact k3⟩);·rw[aH (λy=>nt 0 (by rw[y];exact g4))];exact z
     ·rw[aH (np c o z)];exact sr2.up.hh c o z
     ·rw[aH (aP z g2)];exact sr2.e.sub c o z
    ·rw[if_neg hz]at h;exact h.elim
  |_=>rw[q2]at h;exact h.elim
 |_=>rw[q1]at h;exact h.elim
end
section
variable{dj:List Stmt}{α:Type}{g2:α->Ev->O}{e:Expr}{ga:Ev->R D}{p pos':Pos}
def yk{K:PySem.W.Frag}{p:Addr}{xs:DX}(s:Same G H)(hp:H p=none)(k:KeysAt K G xs ks)(r:Reps K G (xs.map (·.2.2)) ds):
  Up G H G (upd H p (DctO p o xs))/\ObjAt K H G (upd H p (DctO p o xs)) (λa=>if a=p then some (0,0)else none) 0 true DC p (ks.zip (ds.map Fd.val)):=
 ⟨⟨λa u q=>by rw[aH (aP q (s.free hp))];exact s a u q,.refl _,.into hp,λ_ _ q=>.inl q⟩,.inr ⟨rfl,o,xs,ks,ds,aS,s.free hp,λ_=>hp,if_pos rfl,k,r,rfl⟩⟩
noncomputable def Dx(i:Nat)(g2:α->Ev->O):Addr×α->Ev->O:=λq ρ=>g2 q.2 (ρ.set i (some (.obj true DC q.1 [])))
def FT(i:Nat)(hN:X.N.Nodup)(h2:AV X dj g2)(hi:X.N[i]?=some y:=by rfl)(hx:Loc X.env.scope y:=by first|exact Or.inl rfl|exact Or.inr rfl)(hw:swappedStores [.Name y py] (.Dict [] [] pos) X.env=pure none:=by rfl)(hf:X.fn y=true\/X.env.scope.names.lookup y=some .local:=by first|exact .inl rfl|exact .inr rfl)(hs:swapsWithSole [.Name y py] (.Dict [] [] pos) pos'.line X.env=pure false:=by rfl):AV X (.Assign [.Name y py] (.Dict [] [] pos) pos'::dj) (Dx i g2):=λG₀ H₀ pins s σ H D I ⟨G,ρ,sr,h⟩=>by
 refine jN (jf E4 (fR (i:=i) hN hi hx hf) hs hw rfl) (h2 G₀ H₀) pins s σ H D I λq o hq=>?_;obtain⟨u,ob⟩:=yk (o:=o) sr.e.sub hq (.nil:KeysAt X.K G [] []) (.nil:Reps X.K G [] []);exact⟨G,_,sr.setObj u ob i,λq2=>h (q,q2)⟩
noncomputable def yS(i:Nat)(ga:Ev->R D)(g2:α->Ev->O):Addr×α->Ev->O:=λq ρ=>(fw (ga ρ)).out ρ λd=>match d with
 |.dct (k::ks) ds=>g2 q.2 (ρ.set i (some (.obj true DC q.1 ((k::ks).zip (ds.map Fd.val)))))
 |_=>.no
def CD[Inhabited α](i:Nat)(hN:X.N.Nodup)(hg:Gl X "dict")(hm:X.mg "dict"=none)(he:PF X e ga)(h2:AV X dj g2)(hi:X.N[i]?=some y:=by rfl)(hx:Loc X.env.scope y:=by first|exact Or.inl rfl|exact Or.inr rfl)(hse:starEach [e] X.env=(false,eval e X.env)::starEach [] X.env:=by rfl)(hw:swappedStores [.Name y py] (.Call (.Name "dict" p) [e] [] pos) X.env=pure none:=by rfl)(hf:X.fn y=true\/X.env.scope.names.lookup y=some .local:=by first|exact .inl rfl|exact .inr rfl)(hs:swapsWithSole [.Name y py] (.Call (.Name "dict" p) [e] [] pos) pos'.line X.env=pure false:=by rfl):AV X (.Assign [.Name y py] (.Call (.Name "dict" p) [e] [] pos) pos'::dj) (yS i ga g2):=λG₀ H₀ pins s σ H D I ⟨G,ρ,sr,h⟩=>by
 refine jN (jf (mZ tm hg hm PyProof.Rows.Boot.«dict» (du he iy hse) (by decide) (by decide) hse rfl) (fR (i:=i) hN hi hx hf) hs hw rfl) (h2 G₀ H₀) pins s σ H D I ⟨G,ρ,sr.e,?_⟩;have h:∀q:Addr×α,jH X G₀ H₀ D ((fw (ga ρ)).out ρ λd=>match d with
  |.dct (k::ks) ds=>g2 q.2 (ρ.set i (some (.obj true DC q.1 ((k::ks).zip (ds.map Fd.val)))))
  |_=>.no):=h;cases q1:ga ρ with
 |ok d=>
  rw[q1]at h;intro v G1 H1 u1 r1;cases r1 with
  | @dct c o xs ks ds hc hk hr=>
   have sr1:=sr.ups u1;cases ks with
   |nil=>exact(h (0,default)).elim
   |cons k ks=>refine⟨c,o,xs,rfl,u1.sub _ _ hc,hk.inH u1.sub,hk.twos,λz=>by have:=hk.length;rw[z]at this;simp at this,λq o' hq=>?_⟩;obtain⟨u,ob⟩:=yk (o:=o') u1.sub hq hk hr;exact⟨G1,_,sr1.setObj u ob i,λq2=>h (q,q2)⟩
  |_=>exact(h (0,default)).elim
 |_=>rw[q1]at h;exact(h (0,default)).elim
noncomputable def qR(i:Nat):Ev->O:=λρ=>match ρ[i]? with
 |some (some (.obj true C _ fs))=>if C=DC then (match fvs fs with
  |some kv=>.rt (.dct (kv.map (·.1)) (kv.map (·.2)))
  |none=>.no)else .no
 |_=>.no
def DK(i:Nat)(hi:X.N[i]?=some x:=by rfl)(hv:Vis X.env.scope x:=by first|exact Or.inl rfl|exact Or.inr (Or.inl rfl)|exact Or.inr (Or.inr rfl))(hd:(x==("__debug__":Str))=false:=by decide)(hcd:(x==("__classdict__":Str))=false:=by decide):PSF X (.Return (some (.Name x p)) pos) (qR i):=λG₀ H₀ pins s σ H D I ⟨G,ρ,sr,h⟩=>by
 unfold qR at h;split at h
 ·rename_i C q fs e1;split at h
  ·rename_i z;subst z;obtain⟨ow,_,o2⟩:=sr.ob;obtain⟨hσ,ob⟩:=o2 i true DC q fs e1;obtain⟨o,xs,ks,ds,g1,g2,g3,g4,g5,g6,g7⟩:=ob.dco;rw[g7,uk]at h;have l1:=g5.length;have l2:=g6.length;rw[List.length_map]at l2;have e2:(ks.zip ds).map (·.1)=ks:=List.map_fst_zip (by omega);have e3:(ks.zip ds).map (·.2)=ds:=List.map_snd_zip (by omega);have h:jH X G₀ H₀ D (.rt (.dct ((ks.zip ds).map (·.1)) ((ks.zip ds).map (·.2)))):=h;rw[e2,e3]at h;have into:Same G (upd G q (DctO q o xs)):=.into g2;refine Af (dv hi hv hd hcd) pins s σ H D I ⟨_,hσ,h (.ref q) (upd G q (DctO q o xs)) H ⟨λa u y=>?_,sr.up.gg.trans into,sr.up.hh,λa u y=>?_⟩ (.dct aS (g5.mono into) (g6.mono into))⟩
   ·by_cases ea:a=q;·subst ea;rw[aS]at y;rw[<- y];exact g1
    ·rw[aH ea]at y;exact sr.e.sub a u y
   ·by_cases ea:a=q;·subst ea;exact .inr (g3 rfl)
    ·rw[aH ea]at y;exact sr.up.fr a u y
  ·exact h.elim
 ·exact h.elim
noncomputable def d1F:D->D->Option D:=λk v=>(tI k).map λn=>.dct [n] [v]
noncomputable def gD1(gk gv:Ev->R D):Ev->R D:=λρ=>gk ρ>>=λk=>gv ρ>>=λv=>ofO (d1F k v)
def J2{k v:Expr}{gk gv:Ev->R D}(hu:X.A.units+64<cLine)(hk:PF X k gk)(hv:PF X v gv):PF X (.Dict [some k] [v] pos) (gD1 gk gv):=λpins s σ H Q I ⟨G,ρ,st,h⟩=>by
 refine FA (by omega) hk hv pins s σ H Q I λq o hq=>?_;have u0:Up G H G (upd H q (DctO q o [])):=⟨λa u y=>by rw[aH (aP y (st.sub.free hq))];exact st.sub a u y,.refl _,.into hq,λ_ _ y=>.inl y⟩
 have h:(gk ρ>>=λk=>gv ρ>>=λv=>ofO (d1F k v)).post (Fin G H (Rep X.K) Q) (Exx X σ G H):=h;have st0:=st.up u0;refine⟨G,ρ,st0,?_⟩;cases q1:gk ρ with
 |ok kd=>
  rw[q1]at h;intro kv G1 H1 u1 r1;refine⟨G1,ρ,st0.up u1,?_⟩;have h:(gv ρ>>=λv=>ofO (d1F kd v)).post (Fin G H (Rep X.K) Q) (Exx X σ G H):=h;cases q2:gv ρ with
  |ok vd=>
   rw[q2]at h;intro vv G2 H2 u2 r2;obtain⟨w,e1,h⟩:=ofO.ok (show(ofO (d1F kd vd)).post (Fin G H (Rep X.K) Q) (Exx X σ G H) from h);unfold d1F at e1;cases e2:tI kd with
   |none=>rw[e2]at e1;cases e1
   |some n=>
    rw[e2]at e1;cases e1;obtain⟨c,a,b,rfl,rfl,hc⟩:=lO e2 r1;have u:=u1.trans u2;have gq:G2 q=none:=by
     cases z:G2 q with
     |none=>rfl
     |some o'=>
      rcases u.fr q o' z with y|y;·rw[st.sub.free hq]at y;cases y
      ·rw[aS]at y;cases y
    refine⟨u.hh _ _ aS,c,[a,b],rfl,(hc.mono u2.gg).mono u2.sub,λo'=>h (.ref q) (upd G2 q (DctO q o' [([a,b],c,vv)])) _ ⟨u2.sub.both,u.gg.trans (.into gq),λx o'' y=>?_,λx o'' y=>?_⟩ (.dct aS (.cons ((hc.mono u2.gg).mono (.into gq)) .nil) (.cons (r2.mono (.into gq)) .nil))⟩;·have nx:=aP y hq;rw[aH nx];exact u.hh x o'' (by rw[aH nx];exact y)
    ·by_cases ex:x=q;·subst ex;exact .inr hq
     ·rw[aH ex]at y;rcases u.fr x o'' y with z|z;·exact .inl z
      ·rw[aH ex]at z;exact .inr z
  |ex C=>rw[q2]at h;exact Exx.up (u0.trans u1) h
  |no=>rw[q2]at h;exact h.elim
 |ex C=>rw[q1]at h;exact Exx.up u0 h
 |no=>rw[q1]at h;exact h.elim
noncomputable def DJ(n:Nat):D:=.tup [.bl (n % 2==1),.bl (n / 2==1)]
noncomputable def AA:D->R (List D)
 |.dct ks ds=>.ok ((ks.zip ds).map λz=>.tup [DJ z.1,z.2])
 |_=>.no
def qV:∀a b:Bool,DJ (code a b)=.tup [.bl a,.bl b]:=by intro a b;cases a <;> cases b <;> rfl
def KeysAt.item{K:PySem.W.Frag}:∀{xs:DX}{ks:List Nat}{ds:List D}{i:Nat}{y:List Bool×Addr×V},KeysAt K G xs ks->Reps K G (xs.map (·.2.2)) ds->xs[i]?=some y->∃n d,(ks.zip ds)[i]?=some (n,d)/\Rep K G (.ref y.2.1) (DJ n)/\Rep K G y.2.2 d
 |_,_,_,_,_,.nil,_,e=>by simp at e
 |_,_,_,0,_,.cons (a:=a) (b:=b) h t,.cons r1 r2,e=>by simp at e;subst e;exact⟨_,_,rfl,by rw[qV];exact .tup h (.cons (.bl a) (.cons (.bl b) .nil)),r1⟩
 |_,_,_,i+1,_,.cons h t,.cons r1 r2,e=>by obtain⟨n,d,h1,h2⟩:=KeysAt.item (i:=i) t r2 (by simpa using e);exact⟨n,d,by simpa using h1,h2⟩
def ItOk.dct{K:PySem.W.Frag}{xs:DX}(h:G a=some (DctO a o xs))(k:KeysAt K G xs ks)(r:Reps K G (xs.map (·.2.2)) ds):ItOk K G (Itd a o xs) ((ks.zip ds).map λz=>.tup [DJ z.1,z.2]):=by
 intro i G1 H1 s1 s2;have l1:=k.length;have l2:=r.length;rw[List.length_map]at l2;have lz:((ks.zip ds).map λz=>D.tup [DJ z.1,z.2]).length=xs.length:=by rw[List.length_map,List.length_zip];omega
 have hH:=s2 _ _ (s1 _ _ h);refine⟨λd e=>?_,λhl=>⟨hH,by rw[lz]at hl;exact hl⟩⟩;have hi:i<xs.length:=by rw[<- lz];exact(List.getElem?_eq_some_iff.1 e).1
 refine⟨⟨hH,hi⟩,λx H' ⟨p,y,ex,hp,hy,eH⟩=>?_⟩;subst ex eH;obtain⟨n,d',e1,e2,e3⟩:=k.item r hy;rw[List.getElem?_map,e1]at e;cases e;have gp:=s2.free hp;exact⟨upd G1 p (.tup [.ref y.2.1,y.2.2]),.new s2 hp,.tup (.of aS) (.cons ((e2.mono s1).mono (.into gp)) (.cons ((e3.mono s1).mono (.into gp)) .nil))⟩
def zA{tp ap:Pos}(he:PF X e ga)(hbase:attributeBase e "items" X.env (eval e X.env)=eval e X.env:=by rfl)(hline:(ap.endLine==pos.line)=true:=by rfl):
  PIF X (.Tuple elts kt tp) (.Call (.Attribute e "items" ap) [] [] pos) (λρ=>ga ρ>>=AA):=λpins s σ H Rr I ⟨G,ρ,st,h⟩=>by
 refine De he hbase hline pins s σ H Rr I (tG.intro st h λd v G1 H1 u1 st1 r1 h1=>?_);cases r1 with
 |dct hh k r=>exact⟨_,_,_,rfl,st1.sub _ _ hh,h1 _ G1 H1 (.refl st1.sub) (.dct hh k r)⟩
 |_=>exact h1.elim
end
noncomputable def sC(key:D->R D):D->Int->List D->R D
 |b,_,[]=>.ok b
 |b,kb,x::xs=>match key x with
  |.ok (.int kx)=>if kx<kb then sC key x kx xs else sC key b kb xs
  |_=>.no
noncomputable def qF(key:D->R D):List D->R D
 |x::xs=>(match key x with
  |.ok (.int kx)=>sC key x kx xs
  |_=>.no)
 | []=>.no
section
variable{g:List D->R D}{n:Int}
def vK(F:FnF X.prog X.w X.K X.mg X.base k f fd ps g)(hr:Room k X.A.in1)(hh:X.A.handled=none)(hb:Binds X.K fd ps [])(hl:ps.length=1)(I:Inv X pins σ H s)(ru:RelV v u)(sub:Same G H)(rd:Rep X.K G v d)(e:g [d]=.ok (.int n)):
  wpAny (model X.prog X.w) X.A.in1 (call (.ref f) [u]) (λy s4=>∃H4 t,y=.int n t/\Inv X pins σ H4 s4/\Same H H4/\Un (frs X.stack) [] H H4 s.heap s4.heap) E s:=by
 have J:Inv { X with A:=X.A.in1 } pins σ H s:=I.cx (A':=X.A.in1) (calm':=X.calm) (pn':=X.pn) (pins':=pins) (xe':=X.xe) (λp q=>q) rfl (λ_=>hh);have hbb:=hb s [u] J.kIn (by rw[hl];rfl);refine wpAny_call (codeAny_mono (F.run X.A.in1 X.stack s H ⟨[u],[]⟩ [u] [v] (λw H4=>w=.int n/\Same H H4) (λ_ _ _=>False) hr J.env0 hbb (.cons ru .nil) ⟨by rw[hl];rfl,G,[d],sub,.cons rd .nil,?_⟩) λr s' hq=>?_);·rw[e];exact λw G' H' up rw'=>⟨rw'.int_inv,up.hh⟩
 ·cases r with
  |error z=>obtain⟨_,_,_,_,_,z⟩:=hq;exact z.elim
  |ok fl=>
   cases fl with
   |ret y=>obtain⟨w,H4,os4,bare4,un4,hok4,rk4,rfl,sm⟩:=hq;obtain⟨t,rfl⟩:=rk4;exact⟨H4,t,rfl,I.call' (s':=s') (ch:=[]) os4 un4 hok4 bare4 (λb z=>absurd z (by simp)),sm,un4⟩
   |_=>exact False.elim hq
end
section
variable{H0:Hp}{Ii S l:Addr}{g:List D->R D}{dd:D}{Rr:Result->Shared->Prop}
def Ho{prog:Program}{w:World}{A:Around}{i j:Int}{t u:Tok}{Q:Value->Shared->Prop}(h:Q (.bool (decide (i<j))) s):wpAny (model prog w) A (richCompare .Lt (.int i t) (.int j u)) Q E s:=
 richCompare_gives (op:=.Lt) (typeIs_int s _ t) (typeIs_int s _ u) PySem.F.slot_int_lt PySem.F.entry_int_lt (PySem.F.args_int_lt_2 _ _) (gives_int_lt _ _ t u) (λx=>nomatch x) h
def Al(F:FnF X.prog X.w X.K X.mg X.base k f fd ps g)(hr:Room k X.A.in1)(hh:X.A.handled=none)(hb:Binds X.K fd ps [])(hl1:ps.length=1)(hG:Same G H0)(hq:SqL X.K G l vs)(hlI:l≠Ii)(hSI:S≠Ii)(fpI:∀H',H' Ii=none->lN X pins H' Ii)(fpS:∀H',H' S=none->lN X pins H' S)(nfI:Ii∉frs X.stack)(nfS:S∉frs X.stack)(hR:∀v u H' s',Inv X pins σ H' s'->Same H0 H'->RelV v u->Rep X.K G v dd->Rr (.ok (.ret u)) s'):
  ∀(dj:List D)(vrest:List V)(p:Nat)(b:D)(vb:V)(kb:Int)(s:Shared)(H:Hp)(ub:Value)(t:Tok)(c:Nat),p<=vs.length->vs.drop p=vrest->Reps X.K G vrest dj->sC (λd=>g [d]) b kb dj=.ok dd->
   Inv X pins σ H s->Same H0 H->s.heap.get? S=some (seqObj "list" #[ub,.int kb t] c)->s.heap.IsListIter Ii l p->H Ii=none->H S=none->RelV vb ub->Rep X.K G vb b->
   codeAny (model X.prog X.w) X.A (.builtin "min.loop" ⟨[.ref Ii,.ref f,.ref S],[]⟩) Rr s:=by
 intro dj;have nm:(toString "min"++toString ".loop":String)="min.loop":=by decide
 induction dj with
 |nil=>
  intro vrest p b vb kb s H ub t c hpl hd hrs hm I hs gS hit nI nS rb rpb;cases hm;cases hrs;obtain⟨its,rvs,pl,hz⟩:=I.list ((hq.mono hG).mono hs);have W:=Walks.list (prog:=X.prog) (w:=X.w) (A:=X.A.in1) hh Ii l hlI its.toArray;obtain rfl:p=its.toArray.size:=by have h1:=rvs.length;have h2:=List.drop_eq_nil_iff.1 hd;simp;omega
  refine codeAny_builtin PySem.F.entry_min_loop ?_;rw[Around.under_plainId PySem.F.plain_min_loop _];refine wpAny_bind (m:=seqItems? (.ref S)) (wpAny_seqItems gS rfl (wpAny_bind (m:=tryCatch (pyNext (.ref Ii)) _) (wpAny_tryCatch (W.done _ _ _ ⟨hit,pl.isList⟩ λh6 tk6 hk6=>?_))));have I6:Inv X pins σ H { s with heap:=h6,toks:=tk6 }:=Inv.turnedL (s:=s) (h':=h6) (t':=tk6) (ch:=[Ii]) I (λb ob hb e=>hk6 b ob hb e) (λb hb=>by rw[List.mem_singleton.1 hb];exact fpI H nI);have s7:=Heap.SameBut.update h6 S (Obj.mapSeq λ_=>(#[]:Array Value));refine wpAny_bind (m:=updateSeq S λ_=>#[]) (wpAny_updateSeq (hk6 S _ (by simpa using hSI) gS) rfl (wpAny_bind (wpAny_letGo (wpAny_pure ?_))));exact hR vb ub H _ (Inv.turnedL (s:={ s with heap:=h6,toks:=tk6 }) (t':=tk6) (ch:=[S]) I6 (λb ob hb e=>(s7.2 b (by simpa using hb)).trans e) (λb hb=>by rw[List.mem_singleton.1 hb];exact fpS H nS)) hs rb rpb
 |cons d dj ih=>
  intro vrest p b vb kb s H ub t c hpl hd hrs hm I hs gS hit nI nS rb rpb;cases hrs with
  |cons rd rrest=>
  rename_i v vrest;obtain⟨its,rvs,pl,hz⟩:=I.list ((hq.mono hG).mono hs);have W:=Walks.list (prog:=X.prog) (w:=X.w) (A:=X.A.in1) hh Ii l hlI its.toArray;have hvp:vs[p]?=some v:=by simpa[List.head?_drop]using congrArg List.head? hd
  have hdr:vs.drop (p+1)=vrest:=by simpa[List.tail_drop]using congrArg List.tail hd
  have hpl':p+1<=vs.length:=(List.getElem?_eq_some_iff.1 hvp).1;obtain⟨u,hu,ru⟩:=rvs.get hvp;obtain⟨kx,eg⟩:∃kx,g [d]=.ok (.int kx):=by
   unfold sC at hm;split at hm;·rename_i kx e;exact⟨kx,e⟩
   ·cases hm
  simp only[sC,eg]at hm;refine codeAny_builtin PySem.F.entry_min_loop ?_;rw[Around.under_plainId PySem.F.plain_min_loop _];refine wpAny_bind (m:=seqItems? (.ref S)) (wpAny_seqItems gS rfl (wpAny_bind (m:=tryCatch (pyNext (.ref Ii)) _) (wpAny_tryCatch (W.item p _ _ _ (by simpa using (List.getElem?_eq_some_iff.1 hu).1) ⟨hit,pl.isList⟩ λv' h3 tk3 hP hst3 hk3=>?_))));obtain rfl:v'=u:=by
   have:its[p]?=some v':=by simpa using hP
   rw[hu]at this;cases this;rfl
  obtain⟨oI,hoI,hoc,hod⟩:=id hst3.1;have I3:Inv X pins σ H { s with heap:=h3,toks:=tk3 }:=Inv.turnedL (s:=s) (h':=h3) (t':=tk3) (ch:=[Ii]) I (λb ob hb e=>hk3 b ob hb e) (λb hb=>by rw[List.mem_singleton.1 hb];exact fpI H nI);have gS3:h3.get? S=some (seqObj "list" #[ub,.int kb t] c):=hk3 _ _ (by simpa using hSI) gS;refine wpAny_bind (m:=tryCatch (holding [v'] (call (.ref f) [v'])) _) (wpAny_tryCatch (wpAny_holding (wpAny_mono (vK (E:=λ_ _=>False) F hr hh hb hl1 I3 ru (hG.trans hs) rd eg) (λy s4 ⟨H4,tx,ey,I4,sm4,un4⟩=>?_) λ_ _ z=>z.elim)));subst ey;have gS4:=un4.keep _ _ gS3 nS nfS (by simp);have gI4:=un4.keep _ _ hoI nI nfI (by simp);have nI4:H4 Ii=none:=un4.free _ _ hoI nI (by simp);have nS4:H4 S=none:=un4.free _ _ gS3 nS (by simp);refine wpAny_bind (m:=tryCatch (holding [v',.int kx tx] (richCompare .Lt (.int kx tx) (.int kb t)>>=_)) _) (wpAny_tryCatch (wpAny_holding (wpAny_bind (Ho (wpAny_bind (wpAny_holding (wpAny_truthy_bool (wpAny_bind (wpAny_letGo (wpAny_pure ?_))))))))));by_cases hlt:kx<kb
  ·rw[if_pos hlt]at hm;rw[decide_eq_true hlt];have s1:=Heap.SameBut.update s4.heap S (Obj.mapSeq λ_=>#[v',.int kx tx]);obtain⟨c2,hc2⟩:∃c2,(s4.heap.update S (Obj.mapSeq λ_=>#[v',.int kx tx])).get? S=some (seqObj "list" #[v',.int kx tx] c2):=⟨_,get?_update_seq gS4 λ_=>#[v',.int kx tx]⟩
   simp only[if_true];refine wpAny_bind (wpAny_updateSeq gS4 rfl (wpAny_bind (wpAny_letGo ?_)));rw[nm];exact wpAny_pure ⟨plainId_quiet PySem.F.plain_min_loop _,ih vrest (p+1) d v kx _ H4 v' tx c2 hpl' hdr rrest hm (Inv.turnedL (s:=s4) (t':=s4.toks) (ch:=[S]) I4 (λb ob hb e=>(s1.2 b (by simpa using hb)).trans e) (λb hb=>by rw[List.mem_singleton.1 hb];exact fpS H4 nS4)) (hs.trans sm4) hc2 ⟨oI,(s1.2 Ii hSI.symm).trans gI4,hoc,hod⟩ nI4 nS4 ru rd⟩
  ·rw[if_neg hlt]at hm;rw[decide_eq_false hlt];simp only[Bool.false_eq_true,if_false];refine wpAny_bind (wpAny_letGo ?_);rw[nm];exact wpAny_pure ⟨plainId_quiet PySem.F.plain_min_loop _,ih vrest (p+1) b vb kb s4 H4 ub t c hpl' hdr rrest hm I4 (hs.trans sm4) gS4 ⟨oI,gI4,hoc,hod⟩ nI4 nS4 rb rpb⟩
def zd{v0:V}{vr:List V}{d0:D}{kb:Int}{Q:VK}(F:FnF X.prog X.w X.K X.mg X.base k f fd ps g)(hr:Room k X.A.in1)(hh:X.A.handled=none)(hb:Binds X.K fd ps [])(hl1:ps.length=1)(I:Inv X pins σ H s)(hG:Same G H)(hq:SqL X.K G l (v0::vr))(r0:Rep X.K G v0 d0)(rr:Reps X.K G vr ds)(eg:g [d0]=.ok (.int kb))(em:sC (λd=>g [d]) d0 kb ds=.ok dd)(hQ:∀v H',Same H H'->Rep X.K G v dd->Q v H'):
  wpAny (model X.prog X.w) X.A (call (.builtin "min") [.ref l] [(Str.ofString "key",.ref f)]) (EP X pins σ Q) X.xe s:=by
 have nm:(toString "min"++toString ".loop":String)="min.loop":=by decide
 obtain⟨its,rvs,pl,hz⟩:=I.list (hq.mono hG);have hl:=pl.isList;obtain⟨ol,hol,_⟩:=id hl;have ll:l<s.heap.objs.size:=Heap.lt_size hol;refine kmk_tree PySem.F.kind_min PySem.F.plain_min PySem.F.entry_min (kmk_min_key _ _) ?_;refine wpAny_bind (m:=Builtin.Builtins.bindParams "min" ["key","default"] 0 ⟨[],[(Str.ofString "key",.ref f)]⟩) (wpAny_of_eq (a:=[some (.ref f),none]) rfl (wpAny_bind (wpAny_pure (wpAny_bind (wpAny_pyIter_list hl (wpAny_bind (wpAny_newList ?_ (Nat.zero_le _))))))));rw[nm];generalize hI:s.heap.objs.size=Ii at *;have hS:(s.heap.push { cls:=.type "list_iterator",data:=.fields #[.ref l,.int 0 0] }).objs.size=Ii+1:=by rw[<- hI];exact size_push' ..
 rw[hS];have hlI:l≠Ii:=Nat.ne_of_lt ll;have hSI:Ii+1≠Ii:=Nat.ne_of_gt (Nat.lt_succ_self _);refine wpAny_pure ⟨plainId_quiet PySem.F.plain_min_loop _,?_⟩;generalize hh2:(s.heap.push { cls:=.type "list_iterator",data:=.fields #[.ref l,.int 0 0] }).push (seqObj "list" #[] 0)=h2;have k2:∀b ob,s.heap.get? b=some ob->h2.get? b=some ob:=λb ob e=>by rw[<- hh2];exact Heap.get?_push_of_some _ (Heap.get?_push_of_some _ e)
 have gI:h2.get? Ii=some { cls:=.type "list_iterator",data:=.fields #[.ref l,.int 0 0] }:=by rw[<- hh2,<- hI];exact Heap.get?_push_of_some _ (Heap.get?_push_size _ rfl)
 have gS:h2.get? (Ii+1)=some (seqObj "list" #[] 0):=by rw[<- hh2,<- hS];exact Heap.get?_push_size _ rfl
 have fpI:∀H',H' Ii=none->lN X pins H' Ii:=λH' n=>I.fpOk (by rw[hI];exact Nat.le_refl _) n;have fpS:∀H',H' (Ii+1)=none->lN X pins H' (Ii+1):=λH' n=>I.fpOk (by rw[hI];exact Nat.le_succ _) n;have nI:H Ii=none:=I.hok.fresh (by rw[hI];exact Nat.le_refl _);have nS:H (Ii+1)=none:=I.hok.fresh (by rw[hI];exact Nat.le_succ _);have noF:∀b,s.heap.objs.size<=b->b∉frs X.stack:=λb hb z=>by
  rcases List.mem_cons.1 (I.stkSub b z)with rfl|z;·exact absurd I.lt (Nat.not_lt.2 hb)
  ·exact I.nofs hb z
 have nfI:Ii∉frs X.stack:=noF _ (by rw[hI];exact Nat.le_refl _);have nfS:(Ii+1)∉frs X.stack:=noF _ (by rw[hI];exact Nat.le_succ _);have W:=Walks.list (prog:=X.prog) (w:=X.w) (A:=X.A.in1) hh Ii l hlI its.toArray;obtain⟨u0,hu0,ru⟩:=rvs.get (i:=0) (x:=v0) rfl;refine codeAny_builtin PySem.F.entry_min_loop ?_;rw[Around.under_plainId PySem.F.plain_min_loop _];refine wpAny_bind (m:=seqItems? (.ref _)) (wpAny_seqItems gS rfl (wpAny_bind (m:=tryCatch (pyNext (.ref Ii)) _) (wpAny_tryCatch (W.item 0 _ _ _ (by simpa using (List.getElem?_eq_some_iff.1 hu0).1) ⟨⟨_,gI,rfl,rfl⟩,hl.at λo e=>k2 _ _ e⟩ λv h3 tk3 hP hst3 hk3=>?_))));obtain rfl:v=u0:=by
  have:its[0]?=some v:=by simpa using hP
  rw[hu0]at this;cases this;rfl
 obtain⟨oI,hoI,hoc,hod⟩:=id hst3.1;have I3:Inv X pins σ H { s with heap:=h3,toks:=tk3 }:=Inv.turnedL (s:={ s with heap:=h2,toks:=s.toks }) (h':=h3) (t':=tk3) (ch:=[Ii]) (I.kept k2) (λb ob hb e=>hk3 b ob hb e) (λb hb=>by rw[List.mem_singleton.1 hb];exact fpI H nI);have gS3:h3.get? (Ii+1)=some (seqObj "list" #[] 0):=hk3 _ _ (by simp) gS;refine wpAny_bind (m:=tryCatch (holding [v] (call (.ref f) [v])) _) (wpAny_tryCatch (wpAny_holding (wpAny_mono (vK (E:=λ_ _=>False) F hr hh hb hl1 I3 ru hG r0 eg) (λy s4 ⟨H4,tx,ey,I4,sm4,un4⟩=>?_) λ_ _ z=>z.elim)));subst ey;have gS4:=un4.keep _ _ gS3 nS nfS (by simp);have gI4:=un4.keep _ _ hoI nI nfI (by simp);have nI4:H4 Ii=none:=un4.free _ _ hoI nI (by simp);have nS4:H4 (Ii+1)=none:=un4.free _ _ gS3 nS (by simp);have s5:=Heap.SameBut.update s4.heap (Ii+1) (Obj.mapSeq λ_=>#[v,.int kb tx]);obtain⟨c5,hc5⟩:∃c5,(s4.heap.update (Ii+1) (Obj.mapSeq λ_=>#[v,.int kb tx])).get? (Ii+1)=some (seqObj "list" #[v,.int kb tx] c5):=⟨_,get?_update_seq gS4 λ_=>#[v,.int kb tx]⟩
 refine wpAny_bind (m:=updateSeq (Ii+1) λ_=>#[v,.int kb tx]) (wpAny_updateSeq gS4 rfl ?_);rw[nm];refine wpAny_pure ⟨plainId_quiet PySem.F.plain_min_loop _,?_⟩;exact Al (H0:=H) (G:=G) (vs:=v0::vr) F hr hh hb hl1 hG hq hlI hSI fpI fpS nfI nfS (λv u H' s' I' sm' rv' rp'=>⟨v,H',I',rv',hQ v H' sm' rp'⟩) ds vr 1 d0 v0 kb _ H4 v tx c5 (by simp) rfl rr em (Inv.turnedL (s:=s4) (t':=s4.toks) (ch:=[Ii+1]) I4 (λb ob hb e=>(s5.2 b (by simpa using hb)).trans e) (λb hb=>by rw[List.mem_singleton.1 hb];exact fpS H4 nS4)) sm4 hc5 ⟨oI,(s5.2 Ii (Ne.symm hSI)).trans gI4,hoc,hod⟩ nI4 nS4 ru r0
end
def uW{key:D->R D}:∀{xs:List D}{b:D}{kb:Int},(∃d,sC key b kb xs=.ok d)\/sC key b kb xs=.no
 | [],b,kb=>.inl ⟨_,rfl⟩
 |x::xs,b,kb=>by
  unfold sC;split
  ·split;·exact uW
   ·exact uW
  ·exact .inr rfl
def yZ{x:D}{xs:List D}:(∃kb d,key x=.ok (.int kb)/\sC key x kb xs=.ok d/\qF key (x::xs)=.ok d)\/qF key (x::xs)=.no:=by
 show _\/(match key x with
  |.ok (.int kx)=>sC key x kx xs
  |_=>.no)=.no;have e0:qF key (x::xs)=(match key x with
  |.ok (.int kx)=>sC key x kx xs
  |_=>.no):=rfl;rw[e0];cases e:key x with
 |ok d=>
  cases d with
  |int kb=>
   rcases uW (key:=key) (xs:=xs) (b:=x) (kb:=kb)with⟨d,h⟩|h;·exact .inl ⟨kb,d,rfl,h,h⟩
   ·exact .inr h
  |_=>exact .inr rfl
 |_=>exact .inr rfl
noncomputable def vh(ga:Ev->R D)(g:List D->R D):Ev->R D:=λρ=>ga ρ>>=λd=>match d with
 |.lst _ xs=>qF (λd=>g [d]) xs
 |_=>.no
def DS{a:Expr}{ga:Ev->R D}{fn:Str}{g:List D->R D}{p fp kp:Pos}(hc:X.calm=true)(hg:Gl X "min")(hm:X.mg "min"=none)(c:Callee X.prog X.w X.K X.mg X.base fn k 1 g)(hr:Room k X.A.in1)(ha:PF X a ga)(hgf:Gl X fn:=by rfl)(hdb:(fn==("__debug__":Str))=false:=by decide)(hs:starEach [a] X.env=(false,eval a X.env)::starEach [] X.env:=by rfl)(hall:(backToKw pos (keywordEach [⟨some "key",.Name fn fp,kp⟩] X.env)).all (·.1.isSome)=true:=by rfl)(hks:(backToKw pos (keywordEach [⟨some "key",.Name fn fp,kp⟩] X.env)).filterMap (·.1)=[("key":Str)]:=by rfl)(hpl:((backTo pos (starEach [a] X.env)).any (·.1) || (backToKw pos (keywordEach [⟨some "key",.Name fn fp,kp⟩] X.env)).any (·.1.isNone))=false:=by rfl):
  PF X (.Call (.Name "min" p) [a] [⟨some "key",.Name fn fp,kp⟩] pos) (vh ga g):=λpins s σ H Q I ⟨G,ρ,st,h⟩=>by
 obtain⟨f,fd,ps,F,hmf,hkp,hb,hl1⟩:=c.ex;have ta:zS (tF X ga) JS σ H (λvs H1=>∃v,vs=[v]/\∃G1 d,Up G H G1 H1/\Rep X.K G1 v d/\(match d with|.lst _ xs=>qF (λd=>g [d]) xs|_=>.no:R D).post (Fin G1 H1 (Rep X.K) Q) (Exx X σ G1 H1)):=
  tG.intro st h λd v G1 H1 u1 st1 r1 h1=>⟨v,rfl,G1,d,u1,r1,h1⟩
 refine wpAny_Call_Name_kw (jk I hg hm PyProof.Rows.Boot.«min» ?_ (by decide) (by decide));refine PySem.W.callWith_of (P:=λ_=>True) hpl (λh _=>by first|exact⟨_,.inl rfl,PySem.W.Looks.of_pure rfl⟩|exact⟨_,.inr (.inl rfl),PySem.W.Looks.of_pure rfl⟩|exact⟨_,.inr (.inr rfl),PySem.W.Looks.of_pure rfl⟩) (evalArgs_kw2 hall (thn ((du ha iy hs) pos pins s σ H _ I ta) λus s1 ⟨vs,H1,I1,r1,q1⟩=>?_) hs);obtain⟨v,hv,G1,d,u1,rd,h1⟩:∃v,vs=[v]/\∃G1 d,Up G H G1 H1/\Rep X.K G1 v d/\(match d with|.lst _ xs=>qF (λd=>g [d]) xs|_=>.no:R D).post (Fin G1 H1 (Rep X.K) Q) (Exx X σ G1 H1):=q1;subst hv;obtain⟨u,rfl,rv⟩:=r1.one;show wpAny _ _ (evalAll ((do let v <- eval (.Name fn fp) X.env;standAt pos;pure v)::(backToKw pos (keywordEach [] X.env)).map (·.2))) _ _ s1;refine wpAny_evalAll_cons (wpAny_bind (thn (pw (v:=.ref f) hgf hmf rfl hdb pins s1 σ H1 (λw H2=>w=.ref f/\H2=H1) I1 ⟨rfl,rfl⟩) λfv s2 ⟨w,H2,I2,rw2,ew,eh⟩=>wpAny_bind (wpAny_standAt (wpAny_pure (wpAny_evalAll_nil ⟨trivial,?_⟩)))));subst ew eh;cases rw2;rw[hks];have fin:∀{l:Addr}{v0:V}{vr:List V}{x0:D}{ds:List D},u=.ref l->SqL X.K G1 l (v0::vr)->Rep X.K G1 v0 x0->Reps X.K G1 vr ds->(qF (λd=>g [d]) (x0::ds)).post (Fin G1 H2 (Rep X.K) Q) (Exx X σ G1 H2)->
   wpAny (model X.prog X.w) X.A (call (.builtin "min") [u] [(Str.ofString "key",.ref f)]) (EP X pins σ Q) X.xe s2:=by
  intro l v0 vr x0 ds eu hq r0 rr h0;subst eu;rcases yZ (key:=λd=>g [d]) (x:=x0) (xs:=ds)with⟨kb,dd,eg,em,e1⟩|e1
  ·rw[e1]at h0;exact zd F hr (I2.ok.hd hc) hb hl1 I2 u1.sub hq r0 rr eg em λv H' sm rp=>h0 v G1 H' ⟨u1.sub.trans sm,.refl _,sm,λa o h=>.inl h⟩ rp
  ·rw[e1]at h0;exact h0.elim
 cases rd with
 |lst hq t=>
  cases rv;cases t with
  |nil=>exact h1.elim
  |cons r0 t=>exact fin rfl (.of hq) r0 t h1
 |fls hq t=>
  cases rv;cases t with
  |nil=>exact h1.elim
  |cons r0 t=>exact fin rfl hq r0 t h1
 |_=>exact h1.elim
noncomputable def lM(K:PySem.W.Frag)(c:Addr)(d:D):Prop:=∀G,Rep K G (.ref c) d
def bq{c:Addr}(hg:Gl X x)(hm:X.mg x=some (.ref c))(hk:lM X.K c d)(hd:(x==("__debug__":Str))=false:=by decide):PF X (.Name x pos) (λ_=>.ok d):=λpins s σ H Q I ⟨G,ρ,st,q⟩=>pw (v:=.ref c) hg hm rfl hd pins s σ H Q I (q _ G H (.refl st.sub) (hk G))
def A6{K:PySem.W.Frag}{c:Addr}{its:Array Value}{n:Nat}(h1:K.lookup c=some o)(h2:o.cls=.type "tuple")(h3:o.data=.seq its n)(h4:its.size<=sizeLine)(h5:Vals vs its.toList)(h6:∀G,Reps K G vs ds):lM K c (.tup ds):=λG=>.tup (.inr ⟨o,its,n,h1,h2,h3,h4,h5⟩) (h6 G)
def Jo{a b:Expr}{ga:Ev->R D}(h:PF X (.Subscript a b pos) ga):PB X (.Subscript a b pos) (aJ jU ga):=zy h
section
variable{dj:List Stmt}{α:Type}{g2:α->Ev->O}{e e':Expr}{gl':Ev->R (List D)}{cn:Str}{n:Nat}
noncomputable def Av{α:Type}(C:Addr)(i j:Nat)(F:MF)(n:Nat)(gb:Ev->R D)(gl:Ev->R (List D))(g2:α->Ev->O):Addr×α->Ev->O:=λq ρ=>(fw (gb ρ)).out ρ λd=>(fw (gl ρ>>=A5 F n)).out ρ λfs=>g2 q.2 ((ρ.set i (some (.val d))).set j (some (.obj true C q.1 fs)))
def BA[Inhabited α](i j:Nat){z:Str}{pz pt pt2 q1 q2:Pos}{k2:Nat}(c:MkC X.prog X.w X.K X.mg X.base C cn k n F)(hr:Room (k+1) X.A)(hc:X.calm=true)(hN:X.N.Nodup)(hb:PF X e' gb)(ha:PFA X (e::es) gl)(h2:AV X dj g2)(hi:X.N[i]?=some y:=by rfl)(hj:X.N[j]?=some z:=by rfl)(hx:Loc X.env.scope y:=by first|exact Or.inl rfl|exact Or.inr rfl)(hf:X.fn y=true\/X.env.scope.names.lookup y=some .local:=by first|exact .inl rfl|exact .inr rfl)(hy:Loc X.env.scope z:=by first|exact Or.inl rfl|exact Or.inr rfl)(hfz:X.fn z=true\/X.env.scope.names.lookup z=some .local:=by first|exact .inl rfl|exact .inr rfl)(hg:Gl X cn:=by rfl)(hdb:(cn==("__debug__":Str))=false:=by decide)(he:starEach (e::es) X.env=(false,eval e X.env)::starEach es X.env:=by rfl)(hpl:(backTo q2 (starEach es X.env)).any (·.1)=false:=by rfl)(hse:starEach [e',.Call (.Name cn q1) (e::es) [] q2] X.env=(false,eval e' X.env)::starEach [.Call (.Name cn q1) (e::es) [] q2] X.env:=by rfl)(hse2:starEach [.Call (.Name cn q1) (e::es) [] q2] X.env=(false,eval (.Call (.Name cn q1) (e::es) [] q2) X.env)::starEach [] X.env:=by rfl)(has:(assignEach [.Name y py,.Name z pz] X.env).map (·.2)=assign (.Name y py) X.env::(assignEach [.Name z pz] X.env).map (·.2):=by rfl)(has2:(assignEach [.Name z pz] X.env).map (·.2)=assign (.Name z pz) X.env::(assignEach [] X.env).map (·.2):=by rfl)(hn:(assignEach [.Name y py,.Name z pz] X.env).length=2:=by rfl)(hst:(assignEach [.Name y py,.Name z pz] X.env).findIdx? (·.1)=none:=by rfl)(hw:swappedStores [.Tuple [.Name y py,.Name z pz] kt pt] (.Tuple [e',.Call (.Name cn q1) (e::es) [] q2] k2 pt2) X.env=pure none:=by rfl)(h1:(assignEach [.Tuple [.Name y py,.Name z pz] kt pt] X.env).map (·.2)=[assign (.Tuple [.Name y py,.Name z pz] kt pt) X.env]:=by rfl)(hs:swapsWithSole [.Tuple [.Name y py,.Name z pz] kt pt] (.Tuple [e',.Call (.Name cn q1) (e::es) [] q2] k2 pt2) pos.line X.env=pure false:=by rfl):
  AV X (.Assign [.Tuple [.Name y py,.Name z pz] kt pt] (.Tuple [e',.Call (.Name cn q1) (e::es) [] q2] k2 pt2) pos::dj) (Av C i j F n gb gl g2):=λG₀ H₀ pins s σ H D I ⟨G,ρ,sr,h⟩=>by
 refine jN (jf (Dn (du hb (du (GC c hr ha hg hdb he hpl) iy hse2) hse)) (DY hc (qG (fR (i:=i) hN hi hx hf) (qG (fR (i:=j) hN hj hy hfz) zB has2) has) hn hst) hs hw h1) (h2 G₀ H₀) pins s σ H D I ⟨G,ρ,sr.e,?_⟩;have h:∀q:Addr×α,jH X G₀ H₀ D ((fw (gb ρ)).out ρ λd=>(fw (gl ρ>>=A5 F n)).out ρ λfs=>g2 q.2 ((ρ.set i (some (.val d))).set j (some (.obj true C q.1 fs)))):=h;cases q':gb ρ with
 |ok d=>
  rw[q']at h;intro v G1 H1 u1 r1;refine⟨G1,ρ,(sr.ups u1).e,?_⟩;cases q:gl ρ>>=A5 F n with
  |ok fs=>
   simp only[q]at h;intro x G' H' ow' u ob;refine⟨by show 2<=sizeLine;decide,λp hp=>?_⟩;have u3:Up G' H' G' (upd H' p (.tup [v,.ref x])):=by
    refine⟨λa o e=>?_,.refl _,λa o e=>?_,λa o e=>.inl e⟩;·have:=((sr.ups u1).setObj u ob j).e.sub a o e;rw[aH (aP this hp)];exact this
    ·rw[aH (aP e hp)];exact e
   have sq:SqT X.K (upd H' p (.tup [v,.ref x])) p [v,.ref x]:=.inl (.inl aS);refine⟨p,[v,.ref x],rfl,sq,rfl,v,[.ref x],rfl,.ref x,[],rfl,rfl,?_⟩;exact⟨G',_,(((sr.ups u1).set r1 i).setObj u ob j).ups u3,λq3=>h (x,q3)⟩
  |_=>simp only[q]at h;exact(h (0,default)).elim
 |_=>rw[q']at h;exact(h (0,default)).elim
end
noncomputable def BI(i:Nat)(g:Ev->O):Ev->O:=λρ=>(g ρ).thenX λd ρ'=>.nx (ρ'.set i (some (.val d)))
def J7{e:Expr}{p:Pos}(i:Nat)(hN:X.N.Nodup)(h:PFX X e g)(hi:X.N[i]?=some x:=by rfl)(hx:Loc X.env.scope x:=by first|exact Or.inl rfl|exact Or.inr rfl)(hs:swapsWithSole [.Name x p] e pos.line X.env=pure false:=by rfl)(hw:swappedStores [.Name x p] e X.env=pure none:=by rfl)(hf:X.fn x=true\/X.env.scope.names.lookup x=some .local:=by first|exact .inl rfl|exact .inr rfl):
  PSF X (.Assign [.Name x p] e pos) (BI i g):=λG₀ H₀ pins s σ H D I ⟨G,ρ,sr,q⟩=>by
 refine jf (h G₀ H₀) (fR (i:=i) hN hi hx hf) hs hw rfl pins s σ H D I ⟨G,ρ,sr,?_⟩;unfold BI at q;cases e:g ρ with
 |re d ρ'=>rw[e]at q;exact λv G' H' s' r=>q _ G' H' (s'.set r i)
 |ex C ρ'=>rw[e]at q;exact q
 |_=>rw[e]at q;exact q.elim
def FC(l:Addr)(items:Array Value)(n:Nat)(b:Addr)(items2:Array Value)(hs1:items.size+items2.size<=sizeLine):
  Meets (Builtin.«list.extend» { pos:=[.ref l,.ref b] }) λ_ R s=>s.heap.get? l=some { cls:=.type "list",data:=.seq items n }/\IsTup s.heap b items2/\R (.ok (.ret .none)) { s with heap:=s.heap.update l (Obj.mapSeq λx=>x++items2) }:=by
 intro prog w A R s ⟨hl,⟨o,e2,hc,n2,hd⟩,h⟩;show wpAny _ _ (selfAndOne "list.extend" { pos:=[.ref l,.ref b] }>>=_) _ _ s;refine wpAny_bind (wpAny_of_eq (a:=(.ref l,.ref b)) rfl ?_);show wpAny _ _ (Builtin.List.listExtendWith (.ref l) (.ref b) .none) _ _ s;unfold Builtin.List.listExtendWith;refine wpAny_bind (wpAny_typeOf (T:="tuple") ⟨o,e2,hc⟩ ?_);rw[if_pos (by rw[Bool.or_eq_true];exact .inr (by decide))];unfold Builtin.List.listItems;refine wpAny_bind (wpAny_bind (wpAny_seqItems e2 hd (wpAny_pure ?_)));refine wpAny_bind (wpAny_bind (wpAny_seqItems hl rfl (wpAny_pure ?_)));dsimp only;rw[wb hs1,Bool.and_false,if_neg (by decide)];show wpAny _ _ (updateSeq l (λx=>x++items2)>>=_) _ _ s;refine wpAny_bind (wpAny_updateSeq (hz:=Nat.le_trans (Nat.le_add_right _ _) hs1) (_hz':=?_) hl rfl ?_);·exact wpAny_pure (a:=Fin.done (.ret .none)) h
 ·rw[Array.size_append];omega
noncomputable def LU(K:PySem.W.Frag):V->List V->Hp->VK->Prop:=λx vs H Q=>∃l b xs zs,x=.ref l/\vs=[.ref b]/\H l=some (.lst xs)/\SqT K H b zs/\xs.length+zs.length<=sizeLine/\Q .non (upd H l (.lst (xs++zs)))
theorem Ec:MtM X "list.extend" (LU X.K):=by
 intro pins s σ H x vs v us Q I rx rv h;obtain⟨l,b,xs,zs,rfl,rfl,hH,hB,hz,q⟩:=h;cases rx;obtain⟨u,rfl,ru⟩:=rv.one;cases ru;obtain⟨z,its,n,r,hl,e⟩:=I.lstM hH;obtain⟨its2,r2,it2,z2⟩:=I.tuple hB;have hl2:=r2.length;have hsz:its.toArray.size+its2.toArray.size<=sizeLine:=by rw[List.size_toArray,List.size_toArray];omega
 refine call_meets F.slot_list_extend ⟨_,e,rfl⟩ F.entry_list_extend (F.args_list_extend_2 _ _) (FC l its.toArray n b its2.toArray hsz) ⟨e,it2,?_⟩;refine⟨.non,_,I.lset (its':=its++its2) hH e (by simp) (r.append r2) ?_,rfl,q⟩;rw[List.length_append];omega
noncomputable def asT:D->R (List D)
 |.tup xs=>.ok xs
 |_=>.no
noncomputable def E8(i:Nat)(ga:Ev->R D):Ev->O:=λρ=>(ownAt ρ i).out ρ λds=>(ga ρ).out ρ λd=>(asT d).out ρ λes=>if ds.length+es.length<=sizeLine then .nx (ρ.set i (some (.own (ds++es))))else .no
def Hl{e:Expr}{ga:Ev->R D}(i:Nat){p ap cp:Pos}(he:PF X e ga)(hi:X.N[i]?=some x:=by rfl)(hv:Vis X.env.scope x:=by first|exact Or.inl rfl|exact Or.inr (Or.inl rfl))(hd:(x==("__debug__":Str))=false:=by decide)(hcd:(x==("__classdict__":Str))=false:=by decide)(hs1:starEach [e] X.env=(false,eval e X.env)::starEach [] X.env:=by rfl)(hbase:attributeBase (.Name x p) "extend" X.env (eval (.Name x p) X.env)=eval (.Name x p) X.env:=by rfl)(hfew:((backTo cp (starEach [e] X.env)).all (λx=>!x.1) && (backToKw cp (keywordEach [] X.env)).all (λx=>x.1.isSome)
 && decide ([e].length+([]:List Keyword).length+(if ([]:List Keyword).isEmpty then 0 else 1)<30))=true:=by rfl)(hline:(ap.endLine==cp.line)=true:=by rfl)(hs:swapsWith (.Call (.Attribute (.Name x p) "extend" ap) [e] [] cp) none pos.line X.env=pure false:=by rfl):
  PSF X (.Expr (.Call (.Attribute (.Name x p) "extend" ap) [e] [] cp) pos) (E8 i ga):=λG₀ H₀ pins s σ H D I h=>by
 refine jp (Cg PySem.F.plainAttrs_list PySem.F.slot_list_extend PySem.F.type_list_extend Ec (dv hi hv hd hcd) (du he iy hs1) hbase hfew hline hs1 rfl) hs pins s σ H D I ?_;obtain⟨G,ρ,sr,h⟩:=h;have h:jH X G₀ H₀ D ((ownAt ρ i).out ρ λds=>(ga ρ).out ρ λd=>(asT d).out ρ λes=>if ds.length+es.length<=sizeLine then .nx (ρ.set i (some (.own (ds++es))))else .no):=h;obtain⟨ds,e1,h⟩:=ownAt.ok h;obtain⟨l,vs,h1,h2,h3,h4,h5⟩:=sr.own i ds e1;refine⟨.ref l,h1,.inl ⟨rfl,vs,.of h2⟩,G,ρ,sr.e,?_⟩;cases q:ga ρ with
 |ok d=>
  rw[q]at h;simp only[R.out]at h;intro v G' H' u r;cases r with
  |tup hb t=>
   rename_i b ws es;have h:jH X G₀ H₀ D (if ds.length+es.length<=sizeLine then .nx (ρ.set i (some (.own (ds++es))))else .no):=h;by_cases hz:ds.length+es.length<=sizeLine;·rw[if_pos hz]at h;refine⟨l,b,vs,ws,rfl,rfl,u.hh _ _ h2,hb.mono u.sub,by rw[h5.length,t.length];exact hz,h _ G' _ ?_⟩;exact(sr.ups u).mut e1 h1 ((h5.mono u.gg).append t)
   ·rw[if_neg hz]at h;exact h.elim
  |_=>exact h.elim
 |ex C=>rw[q]at h;exact Exx.of sr h
 |no=>rw[q]at h;exact h
section
variable{g1 g2':Ev->O}{gt gu:Ev->R Bool}{ga gc:Ev->R D}{go gp:Ev->R (Option Int)}{n:Nat}{f f':D->D->Option D}
def FH:aI g1 g2' ρ=(g1 ρ).seq g2':=rfl
def M6:oIf gt g1 g2' ρ=(gt ρ).out ρ λk=>if k=true then g1 ρ else g2' ρ:=rfl
def IC:eY i ga ρ=(ga ρ).out ρ λd=>.nx (ρ.set i (some (.val d))):=rfl
def Hv:cG ga ρ=(ga ρ).out ρ .rt:=rfl
def Nf:oNx ρ=.nx ρ:=rfl
def Lg:Ck i gl ρ=(gl ρ).out ρ λds=>.nx (ρ.set i (some (.own ds))):=rfl
def IS:ka ga ρ=(ga ρ).out ρ λ_=>.nx ρ:=rfl
def Gn:wF asg gl g ρ=(gl ρ).out ρ λitems=>eG asg g items ρ:=rfl
def EG:je C gl ρ=(gl ρ).out ρ λ_=>.ex C ρ:=rfl
def LQ:Nl asg ga ρ=(ga ρ).out ρ λd=>(asg d ρ).out ρ .nx:=rfl
def Ku:EW i g ρ=g (frz i ρ):=rfl
def yK{α β:Type}{h:α->R β}{gx:Ev->R α}:aJ h gx ρ=gx ρ>>=h:=rfl
def M0{h:List D->Option D}:gOf h gl ρ=gl ρ>>=λds=>ofO (h ds):=rfl
def kY:aa ga gl ρ=ga ρ>>=λx=>gl ρ>>=λxs=>.ok (x::xs):=rfl
def EZ:ck gl ρ=gl ρ>>=λds=>.ok (.lst false ds):=rfl
def LK:xv gl ρ=gl ρ>>=λds=>if ds.length<=sizeLine then .ok ds else .no:=rfl
def Nd:gB2 f ga gb ρ=g2 f ga gb ρ>>=asB:=rfl
def Nn:gB3 f f' ga gb gc ρ=g3 f f' ga gb gc ρ>>=asB:=rfl
def MK:gBn gt ρ=gt ρ>>=λk=>.ok (!k):=rfl
def I9:rR ga ρ=ga ρ>>=λx=>asI x>>=λi=>.ok (some i):=rfl
def JJ{T:String}{h:D->List D->Option D}:im T h ga gl ρ=ga ρ>>=λx=>if nG T x=true then gl ρ>>=λds=>ofO (h x ds)else .no:=rfl
def JT:g2 f ga gb ρ=ga ρ>>=λx=>gb ρ>>=λy=>ofO (f x y):=rfl
def Jt:oq ga gb ρ=ga ρ>>=λx=>asB x>>=λk=>if k=true then gb ρ else .ok (.bl false):=rfl
def Nq:gOr ga gb ρ=ga ρ>>=λx=>asB x>>=λk=>if k=true then .ok (.bl true)else gb ρ:=rfl
def LP:K5 ga ρ=ga ρ>>=λx=>asB x>>=λk=>.ok (.bl (!k)):=rfl
def Je:IG gt gu ρ=gt ρ>>=λk=>if k=true then gu ρ else .ok false:=rfl
def Kz:nV gt gu ρ=gt ρ>>=λk=>if k=true then .ok true else gu ρ:=rfl
def K3:gIf gt ga gb ρ=gt ρ>>=λk=>if k=true then ga ρ else gb ρ:=rfl
def Nt:gSl ga go gp ρ=ga ρ>>=λx=>go ρ>>=λl=>gp ρ>>=λu=>ofO (Fe l u x):=rfl
def JL:fy gl ix gt ga ρ=gl ρ>>=λitems=>fB gt ga items (gR ix ρ)>>=λds=>if ds.length<=sizeLine then .ok ds else .no:=rfl
def ym{h:List D->R D}:aL 1 h (aa ga λ_=>.ok []) ρ=ga ρ>>=λx=>h [x]:=D0
def FE{h:List D->R D}:aL 2 h (aa ga (aa gb λ_=>.ok [])) ρ=ga ρ>>=λx=>gb ρ>>=λy=>h [x,y]:=Aj
def EH{h:List D->R D}:aL 3 h (aa ga (aa gb (aa gc λ_=>.ok []))) ρ=ga ρ>>=λx=>gb ρ>>=λy=>gc ρ>>=λz=>h [x,y,z]:=yt
def EA{h:List D->R D}{gd:Ev->R D}:aL 4 h (aa ga (aa gb (aa gc (aa gd λ_=>.ok [])))) ρ=ga ρ>>=λx=>gb ρ>>=λy=>gc ρ>>=λz=>gd ρ>>=λu=>h [x,y,z,u]:=by
 unfold aL;simp only[kY];cases ga ρ <;> try rfl
 simp only[R.ok_bind];cases gb ρ <;> try rfl
 simp only[R.ok_bind];cases gc ρ <;> try rfl
 simp only[R.ok_bind];cases gd ρ <;> rfl
end
def Ko(i:Nat)(ga:Ev->R D)(ρ:Ev):ME i ga ρ=(ownAt ρ i).out ρ λds=>(ga ρ).out ρ λd=>(asL d).out ρ λes=>if ds.length+es.length<=sizeLine then .nx (ρ.set i (some (.own (ds++es))))else .no:=rfl
def Kl(i:Nat)(ga:Ev->R D)(ρ:Ev):JW i ga ρ=(ownAt ρ i).out ρ λds=>(ga ρ).out ρ λd=>if ds.length<sizeLine then .nx (ρ.set i (some (.own (ds++[d]))))else .no:=rfl
def LA(i j:Nat)(gl:Ev->R (List D))(ρ:Ev):ML i j gl ρ=(gl ρ).out ρ λds=>(qx [i,j] ds ρ).out ρ .nx:=rfl
def NR(ds:List D)(ρ:Ev):ownAt (some (.own ds)::ρ) 0=.ok ds:=rfl
def Nu(a0:Option Sl)(ds:List D)(ρ:Ev):ownAt (a0::some (.own ds)::ρ) 1=.ok ds:=rfl
def Np(a0 a1:Option Sl)(ds:List D)(ρ:Ev):ownAt (a0::a1::some (.own ds)::ρ) 2=.ok ds:=rfl
def asl(ds:List D):asL (.lst false ds)=.ok ds:=rfl
def Nb(a0:Option Sl)(ds:List D)(ρ:Ev):frz 1 (a0::some (.own ds)::ρ)=a0::some (.val (.lst false ds))::ρ:=rfl
noncomputable def g3k(f':D->D->Option D)(r:R D)(y:D):D->R D
 |.bl true=>r>>=λw=>ofO (f' y w)
 |.bl false=>.ok (.bl false)
 |_=>.no
def MB(f f':D->D->Option D)(ga gb gc:Ev->R D)(ρ:Ev):g3 f f' ga gb gc ρ=ga ρ>>=λx=>gb ρ>>=λy=>ofO (f x y)>>=g3k f' (gc ρ) y:=rfl
def KM(f':D->D->Option D)(r:R D)(y:D)(b:Bool):g3k f' r y (.bl b)=if b=true then (r>>=λw=>ofO (f' y w))else .ok (.bl false):=by cases b <;> rfl
def sv2(i j:Nat)(x y:D)(ρ:Ev):qx [i,j] [x,y] ρ=.ok ((ρ.set i (some (.val x))).set j (some (.val y))):=rfl
def NH(a0 a1 a2 a3:Option Sl)(ds:List D)(ρ:Ev):frz 4 (a0::a1::a2::a3::some (.own ds)::ρ)=a0::a1::a2::a3::some (.val (.lst false ds))::ρ:=rfl
def Gp(ρ:Ev)(k:Ev->O):(O.nx ρ).seq k=k ρ:=rfl
def Lx(d:D)(k:Ev->O):(O.rt d).seq k=.rt d:=rfl
def No(C:Addr)(ρ:Ev)(k:Ev->O):(O.ex C ρ).seq k=.ex C ρ:=rfl
def Nj(k:Ev->O):(O.no).seq k=.no:=rfl
def Mo(d:D):aD (.rt d)=.ok d:=rfl
def Ni(ρ:Ev):aD (.nx ρ)=.ok .non:=rfl
def MT(C:Addr)(ρ:Ev):aD (.ex C ρ)=.ex C:=rfl
def NQ(k:Bool):asB (.bl k)=.ok k:=rfl
def uC(i:Int):asI (.int i)=.ok i:=rfl
def NT(k:Bool):jU (.bl k)=.ok k:=rfl
def rd7(a0 a1 a2 a3 a4 a5 a6:Option Sl)(d:D)(ρ:Ev):rdV (a0::a1::a2::a3::a4::a5::a6::some (.val d)::ρ) 7=.ok d:=rfl
def rd8(a0 a1 a2 a3 a4 a5 a6 a7:Option Sl)(d:D)(ρ:Ev):rdV (a0::a1::a2::a3::a4::a5::a6::a7::some (.val d)::ρ) 8=.ok d:=rfl
def rd9(a0 a1 a2 a3 a4 a5 a6 a7 a8:Option Sl)(d:D)(ρ:Ev):rdV (a0::a1::a2::a3::a4::a5::a6::a7::a8::some (.val d)::ρ) 9=.ok d:=rfl
def NA(a0 a1 a2 a3 a4 a5 a6 a7 a8 a9:Option Sl)(d:D)(ρ:Ev):rdV (a0::a1::a2::a3::a4::a5::a6::a7::a8::a9::some (.val d)::ρ) 10=.ok d:=rfl
def NJ(a0 a1 a2 a3 a4 a5 a6 a7 a8 a9 a10:Option Sl)(d:D)(ρ:Ev):rdV (a0::a1::a2::a3::a4::a5::a6::a7::a8::a9::a10::some (.val d)::ρ) 11=.ok d:=rfl
def MY(a0 a1 a2 a3 a4 a5 a6 a7 a8 a9 a10 a11:Option Sl)(d:D)(ρ:Ev):rdV (a0::a1::a2::a3::a4::a5::a6::a7::a8::a9::a10::a11::some (.val d)::ρ) 12=.ok d:=rfl
section
variable(i j:Int)
def Lp:dh (.int i) (.int j)=some (.int (i+j)):=by simp only[dh]
def Lv:qO (.int i) (.int j)=some (.int (i - j)):=by simp only[qO]
def MS:leD (.int i) (.int j)=some (.bl (decide (i<=j))):=by simp only[leD]
def Nx:ltD (.int i) (.int j)=some (.bl (decide (i<j))):=by simp only[ltD]
def NU:gtD (.int i) (.int j)=some (.bl (decide (j<i))):=by simp only[gtD]
def NI:geD (.int i) (.int j)=some (.bl (decide (j<=i))):=by simp only[geD]
def L6:eqF (.int i) (.int j)=some (.bl (i==j)):=by simp only[eqF,eqD,Option.map_some]
def L9:neF (.int i) (.int j)=some (.bl (!(i==j))):=by simp only[neF,eqD,Option.map_some]
end
def Ig{i j:Int}(h : -(2 ^ 64)<i/\i<2 ^ 64):hV (.int i) (.int j)=some (.int (i * j)):=by simp only[hV];rw[if_pos (Or.inl h)]
def HQ{x y:List Nat}(h:x.length+y.length<=sizeLine):dh (.str x) (.str y)=some (.str (x++y)):=by simp only[dh];rw[if_pos h]
def Mh(x y:List Nat):eqF (.str x) (.str y)=some (.bl (x==y)):=by simp only[eqF,eqD,Option.map_some]
def MX(x y:List Nat):neF (.str x) (.str y)=some (.bl (!(x==y))):=by simp only[neF,eqD,Option.map_some]
def wx{α:Type}(n:Nat)(x:α):(List.replicate n [x]).flatten=List.replicate n x:=by
 induction n with
 |zero=>rfl
 |succ n ih=>rw[List.replicate_succ,List.flatten_cons,ih];rfl
def cz:(1000:Nat)<=sizeLine:=by decide
def Hu{c n:Nat}(h:n<=1000):hV (.str [c]) (.int (n:Int))=some (.str (List.replicate n c)):=by have:=cz;simp only[hV];rw[if_pos (by refine⟨by omega,by omega,?_⟩;simp;omega),Int.toNat_natCast,wx]
def Kn{c:D}{n:Nat}(h:n<=1000):hV (.lst false [c]) (.int (n:Int))=some (.lst false (List.replicate n c)):=by have:=cz;simp only[hV];rw[if_pos (by refine⟨by omega,by omega,?_⟩;simp;omega),Int.toNat_natCast,wx]
def Ma{xs:List D}(h:xs[k]?=some d):ixD (.tup xs) (.int (k:Int))=some d:=by simp only[ixD];exact pj h
def L7{xs:List D}(h:xs[k]?=some d):ixD (.lst fz xs) (.int (k:Int))=some d:=by simp only[ixD];exact pj h
def L0{x:List Nat}{c:Nat}(h:x[k]?=some c):ixD (.str x) (.int (k:Int))=some (.str [c]):=by simp only[ixD];rw[pj h];rfl
def KN{α:Type}(xs:List α)(k:Nat):qH xs none (some (k:Int))=xs.take k:=by
 unfold qH;rw[HT.sIx_none,HT.sIx_nat,List.drop_zero,Nat.sub_zero];by_cases h:k<=xs.length;·rw[Nat.min_eq_left h]
 ·rw[Nat.min_eq_right (by omega),List.take_length,List.take_of_length_le (by omega)]
def LM(lo hi:Option Int)(x:List Nat):Fe lo hi (.str x)=some (.str (qH x lo hi)):=rfl
def KF(lo hi:Option Int)(x:List D):Fe lo hi (.tup x)=some (.tup (qH x lo hi)):=rfl
def Lo(fz:Bool)(x:List D):eI [.lst fz x]=some (.int x.length):=rfl
def GF(x:List D):eI [.tup x]=some (.int x.length):=rfl
def K1(x:List Nat):eI [.str x]=some (.int x.length):=rfl
def m_t(h:ds.length<=1000):mkT ds=.ok (.tup ds):=if_pos (Nat.le_trans h cz)
def pN{n:Nat}(h:n<=1000):ca [.int (n:Int)]=.ok ((List.range n).map λ(i:Nat)=>D.int (i:Int)):=by
 have e:ca [.int (n:Int)]=if -(2 ^ 62)<=(n:Int)/\(n:Int)<2 ^ 62 then .ok ((List.range (n:Int).toNat).map λi=>D.int (0+(i:Nat)))else .no:=by simp only[ca]
 rw[e,if_pos (by constructor <;> omega),Int.toNat_natCast];simp only[Int.zero_add]
def MR{α:Type}(a v:α)(l:List α):(a::l).set 0 v=v::l:=rfl
def Bo(asg:D->Ev->R Ev)(g:Ev->O)(ρ:Ev):eG asg g [] ρ=.nx ρ:=rfl
def ij{ρ1 ρ2:Ev}(h1:asg d ρ=.ok ρ1)(h2:g ρ1=.nx ρ2):eG asg g (d::ds) ρ=eG asg g ds ρ2:=by
 rw[eG,h1];show(match g ρ1 with
  |.nx ρ2=>eG asg g ds ρ2
  |.ct ρ2=>eG asg g ds ρ2
  |.bk ρ2=>O.nx ρ2
  |.rt d=>O.rt d
  |.re d ρ2=>.re d ρ2
  |.ex C ρ2=>O.ex C ρ2
  |.no=>O.no)=_;rw[h2]
def mF{e:Expr}{p:Pos}(hg:Gl X "tuple")(hm:X.mg "tuple"=none)(ha:PFA X [e] gl)(he:starEach [e] X.env=(false,eval e X.env)::starEach [] X.env:=by rfl):
  PF X (.Call (.Name "tuple" p) [e] [] pos) (gOf jL gl):=AH pc (CL _) hg hm PyProof.Rows.Boot.«tuple» ha (by decide) (by decide) he rfl
noncomputable def mj:D->List D->Option D
 |.str x,[.int i]=>if -1000<=i/\i<=1000 then some (.str (x++List.replicate (i.toNat - x.length) 32))else none
 |_,_=>none
noncomputable def Dl:V->List V->Hp->VK->Prop:=λx vs H Q=>∃(y:Str)(i:Int),x=.str y/\vs=[.int i]/\-1000<=i/\i<=1000/\Q (.str (Txt.ljust y i)) H
def Ch:MtR X "str.ljust" Dl:=by intro pins s σ H x xs v us Q I rx rv ⟨y,i,ex,exs,h1,h2,q⟩;subst ex exs;obtain⟨t,rfl⟩:=rx;obtain⟨u,rfl,r1⟩:=rv.one;obtain⟨t',rfl⟩:=r1;exact SC.ljust (padOk_of (by omega) (by omega)) (λt'' k=>⟨.str _,H,I.tok _,⟨_,rfl⟩,q⟩)
def sS(y:Str)(i:Int):(Txt.ljust y i).cps.toList=y.cps.toList++List.replicate (i.toNat - y.cps.toList.length) 32:=by
 unfold Txt.ljust;have hl:y.length=y.cps.toList.length:=by simp[Str.length]
 split
 ·rename_i h;have:i.toNat - y.cps.toList.length=0:=by omega
  rw[this];simp
 ·simp[Builtin.Str.padded,Str.length]
def A3(K:PySem.W.Frag):JU K "str" Dl mj:=by
 intro G H x xs dx ds d Q s rx rs e q;unfold mj at e;split at e
 ·split at e
  ·rename_i hi;cases e;obtain⟨v,rfl,r1⟩:=rs.one;obtain⟨y,rfl,ey,hy⟩:=rx.str_inv;obtain rfl:=r1.int_inv;refine⟨y,_,rfl,rfl,hi.1,hi.2,q _ G H (.refl s) (.strL (by rw[sS,ey]) ?_)⟩;have h1:y.length=y.cps.toList.length:=by simp[Str.length]
   have:=cz;rw[h1,ey]at hy;simp;omega
  ·cases e
 ·cases e
def Ea{o e:Expr}{ga:Ev->R D}{ap cp:Pos}(ho:PF X o ga)(ha:PFA X [e] gl)(hbase:attributeBase o "ljust" X.env (eval o X.env)=eval o X.env:=by rfl)(hfew:((backTo cp (starEach [e] X.env)).all (λx=>!x.1) && (backToKw cp (keywordEach [] X.env)).all (λx=>x.1.isSome)
 && decide ([e].length+([]:List Keyword).length+(if ([]:List Keyword).isEmpty then 0 else 1)<30))=true:=by rfl)(hline:(ap.endLine==cp.line)=true:=by rfl)(hs:starEach [e] X.env=(false,eval e X.env)::starEach [] X.env:=by rfl):
  PF X (.Call (.Attribute o "ljust" ap) [e] [] cp) (im "str" mj ga gl):=tO PySem.F.plainAttrs_str PySem.F.slot_str_ljust PySem.F.type_str_ljust Ch (A3 _) ho ha hbase hfew hline hs rfl
def MO(a0 a1 a2 a3 a4 a5 a6 a7 a8 a9 a10 a11 a12:Option Sl)(d:D)(ρ:Ev):rdV (a0::a1::a2::a3::a4::a5::a6::a7::a8::a9::a10::a11::a12::some (.val d)::ρ) 13=.ok d:=rfl
def MM(a0 a1 a2 a3 a4 a5 a6 a7 a8 a9 a10 a11 a12 a13:Option Sl)(d:D)(ρ:Ev):rdV (a0::a1::a2::a3::a4::a5::a6::a7::a8::a9::a10::a11::a12::a13::some (.val d)::ρ) 14=.ok d:=rfl
def K6(i:Nat)(gt:Ev->R Bool)(g1 g2:Ev->O)(ρ:Ev):MG i gt g1 g2 ρ=(fw (gt (frz i ρ))).out ρ λk=>if k=true then g1 ρ else g2 ρ:=rfl
def Iq(j i:Nat)(ga:Ev->R D)(ρ:Ev):ER j i ga ρ=(fw (ga (frz j ρ))).out ρ λd=>if fl 10 d=true then .nx (ρ.set i (some (.val d)))else .no:=rfl
def JF(j i:Nat)(ga:Ev->R D)(ρ:Ev):KZ j i ga ρ=(ownAt ρ i).out ρ λds=>(fw (ga (frz j ρ))).out ρ λd=>if ds.length<sizeLine/\fl 10 d=true then .nx (ρ.set i (some (.own (ds++[d]))))else .no:=rfl
noncomputable def Hn(i:Nat)(ρ:Ev)(ds:List D)(d:D):Option Nat->O
 |some n=>if fl 10 d=true then .nx (ρ.set i (some (.own (ds.set n d))))else .no
 |none=>.no
def IT(i:Nat)(gk ga:Ev->R D)(ρ:Ev):FJ i gk ga ρ=(ownAt ρ i).out ρ λds=>(fw (ga (frz i ρ))).out ρ λd=>(fw (gk (frz i ρ)>>=asI)).out ρ λk=>Hn i ρ ds d (ixN ds.length k):=rfl
def xj(i:Nat)(ρ:Ev)(ds:List D)(d:D)(n:Nat):Hn i ρ ds d (some n)=if fl 10 d=true then .nx (ρ.set i (some (.own (ds.set n d))))else .no:=rfl
def G0(gl:Ev->R (List D))(ρ:Ev):FO gl ρ=gl ρ>>=Fz:=rfl
def Ld(xs:List D):Fz [.tup xs]=.ok xs:=rfl
def Gj(ga gb:Ev->R D)(ρ:Ev):H8 ga gb ρ=ga ρ>>=λx=>gb ρ>>=λc=>DZ x c:=rfl
def Gm(n:Nat)(asg:D->Ev->R Ev)(gl:Ev->R (List D))(ix:List Nat)(gt:Ev->R Bool)(ga:Ev->R D)(ρ:Ev):kh n asg gl ix gt ga ρ=gl ρ>>=λitems=>eA asg gt ga items (de n ix ρ)>>=λds=>if ds.length<=sizeLine then .ok ds else .no:=rfl
def Gy(i j:Nat)(ga:Ev->R D)(gl:Ev->R (List D))(ρ:Ev):KW i j ga gl ρ=(ga ρ).out ρ λd=>(gl ρ).out ρ λds=>.nx ((ρ.set i (some (.val d))).set j (some (.own ds))):=rfl
def Lf(f:Bool)(lo hi:Option Int)(x:List D):Fe lo hi (.lst f x)=some (.lst false (qH x lo hi)):=rfl
def Km(ga gs:Ev->R D)(ρ:Ev):MN ga gs ρ=ga ρ>>=λx=>gs ρ>>=λk=>JV x k:=rfl
def Kp(x:List Nat):JV (.str x) (.int (-1))=.ok (.str x.reverse):=rfl
def Ll(f:Bool)(x:List D):JV (.lst f x) (.int (-1))=.ok (.lst false x.reverse):=rfl
def JY(f:Bool)(xs:List D):Fz [.lst f xs]=.ok xs:=rfl
noncomputable def Kc(i:Nat):O->O
 |.nx ρ=>.nx (ρ.set i none)
 |.rt d=>.rt d
 |_=>.no
noncomputable def Ih(gs:Ev->O)(f:Addr->Option Bool)(i:Nat):O->O
 |.ex C ρ=>(match f C with
  |some true=>Kc i (gs (ρ.set i (some (.val (.exc C)))))
  |_=>.no)
 |o=>o
def KI(gb gs:Ev->O)(f:Addr->Option Bool)(i:Nat)(ρ:Ev):Mc gb gs f i ρ=Ih gs f i (gb ρ):=by unfold Mc Ih;cases gb ρ <;> rfl
def E3(gs:Ev->O)(f:Addr->Option Bool)(i:Nat)(ρ:Ev):Ih gs f i (.nx ρ)=.nx ρ:=rfl
def Ei{gs:Ev->O}{f:Addr->Option Bool}(h:f C=some true):Ih gs f i (.ex C ρ)=Kc i (gs (ρ.set i (some (.val (.exc C))))):=by simp only[Ih,h]
def FV(i:Nat)(ρ:Ev):Kc i (.nx ρ)=.nx (ρ.set i none):=rfl
noncomputable def Jk(gs:List (Ev->R D))(out:List Nat)(ρ:Ev):D->R D
 |.str x=>if (out++x).length<=sizeLine then uc gs (out++x) ρ else .no
 |_=>.no
def GV(gs:List (Ev->R D))(ρ:Ev):LH gs ρ=uc gs [] ρ:=rfl
def Eo(out:List Nat)(ρ:Ev):uc [] out ρ=.ok (.str out):=rfl
def EL(g:Ev->R D)(gs:List (Ev->R D))(out:List Nat)(ρ:Ev):uc (g::gs) out ρ=g ρ>>=Jk gs out ρ:=rfl
def Fl(gs:List (Ev->R D))(out:List Nat)(ρ:Ev)(x:List Nat):Jk gs out ρ (.str x)=if (out++x).length<=sizeLine then uc gs (out++x) ρ else .no:=rfl
def LS(x:List Nat):MJ (.str x)=.ok (.str x):=rfl
def Jn(j i:Nat)(gl:Ev->R (List D))(ρ:Ev):KA j i gl ρ=(fw (gl (frz j ρ))).out ρ λds=>if ds.all (fl 10)=true then .nx (ρ.set i (some (.own ds)))else .no:=rfl
def LJ(n:Nat)(gt:Ev->R Bool)(g:Ev->O)(ρ:Ev):GK n gt g ρ=wC gt g n ρ:=rfl
def Gc(gi:Ev->R (List D))(ix:List Nat)(gt:Ev->R Bool)(ge:Ev->R D)(ρ:Ev):HI gi ix gt ge ρ=gi ρ>>=λitems=>if items.length<=sizeLine then we (lI 0) gt ge items (gR ix ρ)else .no:=rfl
def FG(C:Addr)(i k:Nat)(gb:Ev->R D)(ρ:Ev):vQ C i k gb ρ=(oH C ρ i>>=λfs=>fldL fs k>>=λds=>gb ρ>>=λd=>ofO (ixD (.lst false ds) d)):=rfl
def B4(C:Addr)(i k:Nat)(ρ:Ev):mz C i k ρ=(oH C ρ i>>=λfs=>fldL fs k>>=λds=>.ok (.int ds.length)):=rfl
def Ja(C:Addr)(i k:Nat)(ga:Ev->R D)(ρ:Ev):BZ C i k ga ρ=(pS C ρ i).out ρ λo=>(fldL o.2 k).out ρ λds=>(ga ρ).out ρ λd=>if ds.length<sizeLine then .nx (ρ.set i (some (.obj true C o.1 (jm k (.own (ds++[d])) o.2))))else .no:=rfl
def II(C:Addr)(i k:Nat)(gl:Ev->R (List D))(ρ:Ev):zF C i k gl ρ=(pS C ρ i).out ρ λo=>(gl ρ).out ρ λds=>if o.2.length<900 then .nx (ρ.set i (some (.obj true C o.1 (jm k (.own ds) o.2))))else .no:=rfl
def HV(ga:Ev->R D)(ρ:Ev):CA ga ρ=(ga ρ).out ρ λd=>.re d ρ:=rfl
def FF(C:Addr)(i n:Nat)(F:MF)(gl:Ev->R (List D))(ρ:Ev):Hf C i n F gl ρ=(oH C ρ i>>=λfs=>gl ρ>>=λds=>if ds.length=n then (F fs ds).read else .no):=rfl
def Bm(C:Addr)(i:Nat)(F:MF)(ρ:Ev):bZ C i F ρ=(oH C ρ i>>=λfs=>(F fs []).read):=rfl
def Fv(C:Addr)(i n:Nat)(F:MF)(gl:Ev->R (List D))(ρ:Ev):rh C i n F gl ρ=(pS C ρ i).out ρ λo=>(gl ρ).out ρ λds=>if ds.length=n then (F o.2 ds).out C o.1 i ρ else .no:=rfl
def Ga(C:Addr)(i:Nat)(F:MF)(ρ:Ev):rQ C i F ρ=(pS C ρ i).out ρ λo=>(F o.2 []).out C o.1 i ρ:=rfl
def Nr(d:D)(ρ:Ev)(k:Ev->O):(O.re d ρ).seq k=.re d ρ:=rfl
def KJ(d:D):RM.read (.rd d)=.ok d:=rfl
def KR(C:Addr):RM.read (.ex C)=.ex C:=rfl
def IW(d:D)(fs:List (Nat×Fd))(C p:Addr)(i:Nat)(ρ:Ev):RM.out (.ok d fs) C p i ρ=.nx (ρ.set i (some (.obj true C p fs))):=rfl
def JK(d:D)(C p:Addr)(i:Nat)(ρ:Ev):RM.out (.rd d) C p i ρ=.nx ρ:=rfl
def Im(E C p:Addr)(i:Nat)(ρ:Ev):RM.out (.ex E) C p i ρ=.ex E ρ:=rfl
end L2
section
open L2
set_option compiler.extract_closed false in
local macro_rules | `(tactic| walk_at "run")=>`(tactic| simp -implicitDefEqProofs only[rvz,ciz,nlz,csz,Iy,HM,GX,Ix,Gc,↓ym,↓FE,↓EH,↓EA,FH,M6,IC,Hv,Nf,Lg,IS,Gn,EG,LQ,Ku,yK,M0,kY,EZ,LK,Nd,Nn,MK,I9,JJ,JT,Jt,Nq,LP,Je,Kz,K3,Nt,JL,Ko,Kl,JF,K6,Iq,IT,jt,G0,Gj,Gm,Gy,Lf,Km,Kp,Ll,xj,Ld,JY,MO,MM,and_self,LA,NR,Nu,Np,asl,Nb,NH,MB,KM,sv2,Gp,Lx,No,Nj,Mo,Ni,MT,NQ,uC,NT,rd0,rd1,rd2,rd3,rd4,rd5,rd6,rd7,rd8,rd9,NA,NJ,MY,R.ok_bind,R.ok_out,R.ex_bind,R.ex_out,cS,Lp,Lv,MS,Nx,NU,NI,L6,L9,Mh,MX,Lo,GF,K1,LM,KF,MR,List.set_cons_succ,List.length_nil,List.length_cons,List.cons_append,List.nil_append,Nat.reduceAdd,Nat.reduceBEq,Bool.not_true,Bool.not_false,Bool.false_eq_true,if_false,if_true,Jn,LJ,KI,E3,Ei,FV,GV,Eo,EL,Fl,LS,Int.reduceLT,Int.reduceLE,Int.reduceBEq,decide_true,decide_false,FG,B4,Ja,II,HV,FF,Bm,Fv,Ga,Nr,KJ,KR,IW,JK,Im, *])
namespace Q
open L2
open PySem (sizeLine Addr)
noncomputable def L3:D->Bool
 |.int _=>true
 |_=>false
noncomputable def BR:List D->R D
 | [.exc _]=>.no
 | [.dct _ _]=>.no
 | [d]=>.ok (.bl (L3 d))
 |_=>.no
noncomputable def fF:Ev->O:=(aI (cG (oq (aJ (km isInt) (rvz 0)) (K5 (aJ (km (·=="bool")) (rvz 0))))) oNx)
def uA:∀ds:List D,ds.length=1->BR ds=.no\/aD (fF  (aC 1 ds))=BR ds:=by
 intro ds hl;unfold fF
 match ds,hl with
 | [d],_=>cases d <;> first|exact Or.inr rfl|exact Or.inl rfl
noncomputable def inB(d:D)(lo hi:Int):Bool:=match d with
 |.int i=>decide (lo<=i) && decide (i<=hi)
 |_=>false
noncomputable def xJ:List D->R D
 | [.exc _,_,_]=>.no
 | [.dct _ _,_,_]=>.no
 | [d,.int lo,.int hi]=>.ok (.bl (inB d lo hi))
 |_=>.no
noncomputable def eO(fX:List D->R D):Ev->O:=(aI (cG (oq (aL 1 fX (aa (rvz 0) nlz)) (g3 leD leD (rvz 1) (rvz 0) (rvz 2)))) oNx)
def rJ:∀ds:List D,ds.length=3->xJ ds=.no\/aD (eO BR (aC 3 ds))=xJ ds:=by
 intro ds hl;unfold eO
 match ds,hl with
 | [d,l,h],_=>
  cases d <;> first|exact Or.inl rfl|skip
  all_goals (cases l <;> first|exact Or.inl rfl|skip)
  all_goals (cases h <;> first|exact Or.inl rfl|skip)
  all_goals first|exact Or.inr rfl|skip
  rename_i i lo hi hl;refine Or.inr ?_;show aD (aI _ oNx [some (.val (.int i)),some (.val (.int lo)),some (.val (.int hi))])=R.ok (D.bl (inB (.int i) lo hi));by_cases h1:lo<=i <;> simp[aI,cG,oq,aL,aa,g3,rdV,BR,L3,asB,leD,inB,aD,O.seq,h1]
noncomputable def plain(x:List Nat):Bool:=x.all λc=>decide (32<=c) && decide (c<=126)
noncomputable def NO:D->Bool
 |.str x=>plain x
 |_=>false
noncomputable def lx:List D->R D
 | [.exc _]=>.no
 | [.dct _ _]=>.no
 | [.str x]=>if x.length<=sizeLine then .ok (.bl (plain x))else .no
 | [d]=>.ok (.bl false)
 |_=>.no
noncomputable def fO:Ev->O:=(aI (cG (oq (aJ (km (·=="str")) (rvz 0)) (gOf CH (aa (ck (fy (aJ ce (rvz 0)) [] (λ_=>R.ok true) (g3 leD leD (csz [32]) (rvz 0) (csz [126])))) nlz)))) oNx)
def ux:∀ds:List D,ds.length=1->lx ds=.no\/aD (fO  (aC 1 ds))=lx ds:=by
 intro ds hl;unfold fO
 match ds,hl with
 | [d],_=>
  cases d <;> first|exact Or.inl rfl|exact Or.inr rfl|skip
  rename_i x hl;by_cases hx:x.length<=sizeLine
  ·refine Or.inr ?_;have e:fB (λ_=>R.ok true) (g3 leD leD (λ_=>.ok (.str [32])) (rvz 0) (λ_=>.ok (.str [126]))) (x.map λc=>D.str [c]) [none]=.ok ((x.map λc=>D.str [c]).map λd=>.bl (match d with|.str [c]=>decide (32<=c) && decide (c<=126)|_=>false)):=by
    refine iR _ [] _ none λd m=>⟨rfl,?_⟩
    obtain⟨c,_,rfl⟩:=List.mem_map.1 m;show(ofO (some (D.bl (!decide (([c]:List Nat)<[32]))))>>=λz=>match z with
     |.bl true=>ofO (some (D.bl (!decide (([126]:List Nat)<[c]))))
     |.bl false=>R.ok (D.bl false)
     |_=>R.no:R D)=_;rw[yj,yj,cS,R.ok_bind];cases h1:decide (32<=c) <;> simp[h1]
   have e2:lx [.str x]=.ok (.bl (plain x)):=if_pos hx;rw[e2];show aD (aI _ oNx [some (.val (.str x))])=_;simp only[aI,cG,oq,aJ,gOf,aa,ck,fy,rd0,km,tyN,asB,gR,ce,R.ok_bind,List.map_nil];simp only[beq_self_eq_true,if_true,e,R.ok_bind];simp only[List.length_map,hx,if_true,R.ok_bind,lQ,cS,R.ok_out,aD,O.seq,List.all_map,plain];rfl
  ·exact Or.inl (if_neg hx)
noncomputable def Gw:D->Bool
 |.exc _=>false
 |.dct _ _=>false
 |.str x=>decide (x.length<=sizeLine)
 |_=>true
noncomputable def zJ(d:D)(wd:Int):Bool:=match d with
 |.str x=>plain x && ((x.length:Int)==wd)
 |_=>false
noncomputable def xx(d:D)(wd:Int):Bool:=match d with
 |.tup xs=>decide (1<=xs.length) && decide (xs.length<=12) && xs.all λr=>zJ r wd
 |_=>false
noncomputable def yA:List D->R D
 | [.exc _,_]=>.no
 | [.dct _ _,_]=>.no
 | [.tup xs,.int wd]=>if xs.all Gw=true then .ok (.bl (xx (.tup xs) wd))else .no
 | [d,.int wd]=>.ok (.bl false)
 |_=>.no
def xS(h:Gw d=true):lx [d]=.ok (.bl (NO d)):=by
 cases d <;> first|rfl|(cases h;done)|skip
 exact if_pos (of_decide_eq_true h)
noncomputable def cR(bC:List D->R D):Ev->O:=(aI (oIf (nV (gBn (aJ jU (aJ (km (·=="tuple")) (rvz 0)))) (gBn (gB3 leD leD (ciz 1) (gOf eI (aa (rvz 0) nlz)) (ciz 12)))) (aI (cG (λ_=>R.ok (D.bl false))) oNx) oNx) (aI (cG (gOf CH (aa (ck (fy (aJ ce (rvz 0)) [1] (λ_=>R.ok true) (oq (aL 1 bC (aa (rvz 0) nlz)) (g2 eqF (gOf eI (aa (rvz 0) nlz)) (rvz 1))))) nlz))) oNx))
def lq:∀ds:List D,ds.length=2->yA ds=.no\/aD (cR lx (aC 2 ds))=yA ds:=by
 intro ds hl;unfold cR
 match ds,hl with
 | [d,l],_=>
  cases d <;> first|exact Or.inl rfl|skip
  all_goals (cases l <;> first|exact Or.inl rfl|exact Or.inr rfl|skip)
  rename_i xs wd hl;by_cases hf:xs.all Gw=true
  ·refine Or.inr ?_;have e2:yA [.tup xs,.int wd]=.ok (.bl (xx (.tup xs) wd)):=if_pos hf;rw[e2];have e:fB (λ_=>R.ok true) (oq (aL 1 lx (aa (rvz 0) λx=>R.ok [])) (g2 eqF (gOf eI (aa (rvz 0) λx=>R.ok [])) λρ=>rdV ρ 1)) xs [none,some (.val (.int wd))]=.ok (xs.map λd=>.bl (zJ d wd)):=by
    refine iR _ [some (.val (.int wd))] xs none λd m=>⟨rfl,?_⟩
    have hd:=List.all_eq_true.1 hf d m;simp only[oq,aL,aa,rd0,R.ok_bind,List.length_singleton,if_true,xS hd,asB];cases d <;> first|rfl|skip
    rename_i x;show(if plain x=true then R.ok (D.bl ((x.length:Int)==wd))else R.ok (.bl false))=R.ok (.bl (plain x && ((x.length:Int)==wd)));cases plain x <;> rfl
   show aD (aI _ _ [some (.val (.tup xs)),some (.val (.int wd))])=_;have i2:gR [1] [some (.val (.tup xs)),some (.val (.int wd))]=[none,some (.val (.int wd))]:=rfl;have t1:km (λx=>x=="tuple") (.tup xs)=.ok (.bl true):=rfl;have t2:jU (.bl true)=.ok true:=rfl;have t3:eI [.tup xs]=some (.int xs.length):=rfl;simp only[aI,oIf,nV,gBn,aJ,gB3,g3,cG,gOf,aa,ck,fy,rd0,R.ok_bind,R.ok_out,ce,i2,e,t1,t2,t3,cS,leD,Bool.not_true,Bool.false_eq_true,if_false];by_cases h1:1<=xs.length
   ·have h1':(1:Int)<=(xs.length:Int):=by omega
    by_cases h2:xs.length<=12
    ·have h2':(xs.length:Int)<=12:=by omega
     have h3:xs.length<=sizeLine:=Nat.le_trans h2 (by decide);simp[h1,h1',h2,h2',h3,asB,oNx,O.seq,lQ,aD,xx];simp only[aI,cG,gOf,aa,ck,fy,aJ,rd0,R.ok_bind,ce,i2,e,List.length_map,h3,if_true,lQ,cS,R.ok_out,O.seq]
    ·have h2' : ¬ (xs.length:Int)<=12:=by omega
     simp[h1,h1',h2,h2',asB,oNx,O.seq,aD,xx]
   ·have h1' : ¬ (1:Int)<=(xs.length:Int):=by omega
    simp[h1,h1',asB,oNx,O.seq,aD,xx]
  ·exact Or.inl (if_neg hf)
noncomputable def qU(d:D)(wd m:Int):Bool:=match d with
 |.tup [a,b]=>inB a 0 (m - 1) && inB b 0 wd
 |_=>false
noncomputable def rT:D->Bool
 |.exc _=>false
 |.dct _ _=>false
 |_=>true
noncomputable def oS:List D->R D
 | [.exc _,_,_]=>.no
 | [.dct _ _,_,_]=>.no
 | [.tup xs,.int wd,.int m]=>if xs.all rT=true then .ok (.bl (qU (.tup xs) wd m))else .no
 | [d,.int wd,.int m]=>.ok (.bl false)
 |_=>.no
def kJ{lo hi:Int}(h:rT d=true):xJ [d,.int lo,.int hi]=.ok (.bl (inB d lo hi)):=by cases d <;> first|rfl|(cases h;done)
noncomputable def fG(aU:List D->R D):Ev->O:=(aI (oIf (nV (gBn (aJ jU (aJ (km (·=="tuple")) (rvz 0)))) (gB2 neF (gOf eI (aa (rvz 0) nlz)) (ciz 2))) (aI (cG (λ_=>R.ok (D.bl false))) oNx) oNx) (aI (cG (oq (aL 3 aU (aa (g2 ixD (rvz 0) (ciz 0)) (aa (ciz 0) (aa (g2 qO (rvz 2) (ciz 1)) nlz)))) (aL 3 aU (aa (g2 ixD (rvz 0) (ciz 1)) (aa (ciz 0) (aa (rvz 1) nlz)))))) oNx))
def tQ:∀ds:List D,ds.length=3->oS ds=.no\/aD (fG xJ (aC 3 ds))=oS ds:=by
 intro ds hl;unfold fG
 match ds,hl with
 | [d,l,h],_=>
  cases d <;> first|exact Or.inl rfl|skip
  all_goals (cases l <;> first|exact Or.inl rfl|skip)
  all_goals (cases h <;> first|exact Or.inl rfl|exact Or.inr rfl|skip)
  rename_i xs wd m hl;by_cases hf:xs.all rT=true
  ·refine Or.inr ?_;have e2:oS [.tup xs,.int wd,.int m]=.ok (.bl (qU (.tup xs) wd m)):=if_pos hf;rw[e2]
   match xs,hf with
   | [],_=>rfl
   | [_],_=>rfl
   | [a,b],hf=>have ha:rT a=true:=List.all_eq_true.1 hf a (by simp);have hb:rT b=true:=List.all_eq_true.1 hf b (by simp);show aD ((oq (λ_=>xJ [a,.int 0,.int (m - 1)]) (λ_=>xJ [b,.int 0,.int wd]) []).out _ .rt |>.seq oNx)=_;rw[oq,kJ ha,kJ hb];show aD ((if inB a 0 (m - 1)=true then R.ok (D.bl (inB b 0 wd))else R.ok (D.bl false)).out _ .rt |>.seq oNx)=R.ok (D.bl (inB a 0 (m - 1) && inB b 0 wd));cases inB a 0 (m - 1) <;> rfl
   |a::b::c::l,_=>
    show aD (aI _ _ [some (.val (.tup (a::b::c::l))),some (.val (.int wd)),some (.val (.int m))])=_;have t1:km (λx=>x=="tuple") (.tup (a::b::c::l))=.ok (.bl true):=rfl;have t2:jU (.bl true)=.ok true:=rfl;have t3:eI [.tup (a::b::c::l)]=some (.int (a::b::c::l).length):=rfl;have t4:neF (.int (a::b::c::l).length) (.int 2)=some (.bl true):=by
     have:(((a::b::c::l).length:Int)==2)=false:=by simp;omega
     show some (D.bl (!(((a::b::c::l).length:Int)==2)))=_;rw[this];rfl
    simp only[aI,oIf,nV,gBn,aJ,gB2,g2,cG,gOf,aa,rd0,R.ok_bind,R.ok_out,t1,t2,t3,t4,cS,Bool.not_true,Bool.false_eq_true,if_false];rfl
  ·exact Or.inl (if_neg hf)
noncomputable def rM:D->Bool
 |.exc _=>false
 |.dct _ _=>false
 |.tup [w,r,p]=>rT w && (match r with|.exc _=>false|.dct _ _=>false|.tup xs=>xs.all Gw|_=>true) && (match p with|.exc _=>false|.dct _ _=>false|.tup xs=>xs.all rT|_=>true)
 |_=>true
noncomputable def screen:D->Bool
 |.tup [a,r,p]=>match a with
  |.int wd=>inB (.int wd) 1 40 && xx r wd && (match r with|.tup rows=>qU p wd rows.length|_=>false)
  |_=>false
 |_=>false
noncomputable def nJ:List D->R D
 | [d]=>if rM d=true then .ok (.bl (screen d))else .no
 |_=>.no
noncomputable def eP(aU cL gj:List D->R D):Ev->O:=(aI (oIf (nV (gBn (aJ jU (aJ (km (·=="tuple")) (rvz 0)))) (gB2 neF (gOf eI (aa (rvz 0) nlz)) (ciz 3))) (aI (cG (λ_=>R.ok (D.bl false))) oNx) oNx) (aI (eY 1 (g2 ixD (rvz 0) (ciz 0))) (aI (oIf (nV (gBn (aJ jU (aL 3 aU (aa (rvz 1) (aa (ciz 1) (aa (ciz 40) nlz)))))) (gBn (aJ jU (aL 2 cL (aa (g2 ixD (rvz 0) (ciz 1)) (aa (rvz 1) nlz)))))) (aI (cG (λ_=>R.ok (D.bl false))) oNx) oNx) (aI (cG (aL 3 gj (aa (g2 ixD (rvz 0) (ciz 2)) (aa (rvz 1) (aa (gOf eI (aa (g2 ixD (rvz 0) (ciz 1)) nlz)) nlz))))) oNx))))
def rm:∀ds:List D,ds.length=1->nJ ds=.no\/aD (eP xJ yA oS (aC 2 ds))=nJ ds:=by
 intro ds hl;unfold eP
 match ds,hl with
 | [d],_=>
  cases d <;> first|exact Or.inl rfl|exact Or.inr rfl|skip
  rename_i xs hl
  match xs with
  | []=>exact Or.inr rfl
  | [_]=>exact Or.inr rfl
  | [_,_]=>exact Or.inr rfl
  |a::b::c::e::l=>
   refine Or.inr ?_;show aD (aI _ _ [some (.val (.tup (a::b::c::e::l))),none])=_;have t1:km (λx=>x=="tuple") (.tup (a::b::c::e::l))=.ok (.bl true):=rfl;have t2:jU (.bl true)=.ok true:=rfl;have t3:eI [.tup (a::b::c::e::l)]=some (.int (a::b::c::e::l).length):=rfl;have t4:neF (.int (a::b::c::e::l).length) (.int 3)=some (.bl true):=by
    have:(((a::b::c::e::l).length:Int)==3)=false:=by simp;omega
    show some (D.bl (!(((a::b::c::e::l).length:Int)==3)))=_;rw[this];rfl
   simp only[aI,oIf,nV,gBn,aJ,gB2,g2,cG,gOf,aa,rd0,R.ok_bind,R.ok_out,t1,t2,t3,t4,cS,Bool.not_true,Bool.false_eq_true,if_false];rfl
  | [a,r,p]=>
   by_cases hf:rM (.tup [a,r,p])=true
   ·refine Or.inr ?_;have e2:nJ [.tup [a,r,p]]=.ok (.bl (screen (.tup [a,r,p]))):=if_pos hf;rw[e2];simp only[rM,Bool.and_eq_true]at hf;obtain⟨⟨ha,hr⟩,hp⟩:=hf;show aD (aI _ _ [some (.val (.tup [a,r,p])),none])=_;have t1:km (λx=>x=="tuple") (.tup [a,r,p])=.ok (.bl true):=rfl;have t2:∀k,jU (.bl k)=.ok k:=λ_=>rfl;have t3:eI [.tup [a,r,p]]=some (.int 3):=rfl;have t4:neF (.int 3) (.int 3)=some (.bl false):=rfl;have x0:ixD (.tup [a,r,p]) (.int 0)=some a:=rfl;have x1:ixD (.tup [a,r,p]) (.int 1)=some r:=rfl;have x2:ixD (.tup [a,r,p]) (.int 2)=some p:=rfl;have s1:([some (.val (.tup [a,r,p])),none]:Ev).set 1 (some (.val a))=[some (.val (.tup [a,r,p])),some (.val a)]:=rfl;simp only[aI,oIf,eY,nV,gBn,aJ,gB2,g2,cG,gOf,aa,rd0,rd1,R.ok_bind,R.ok_out,t1,t2,t3,t4,x0,x1,x2,s1,Aj,yt,cS,asB,oNx,O.seq,Bool.not_true,Bool.false_eq_true,if_false,kJ ha];cases hi:inB a 1 40 with
    |false=>
     have:screen (.tup [a,r,p])=false:=by
      cases a <;> first|rfl|skip
      simp only[screen,hi,Bool.false_and]
     rw[this];rfl
    |true=>
     cases a <;> first|(cases hi;done)|skip
     rename_i i;have e3:yA [r,.int i]=.ok (.bl (xx r i)):=by cases r <;> first|rfl|(cases hr;done)|exact if_pos hr
     cases hq:xx r i with
     |false=>
      have:screen (.tup [.int i,r,p])=false:=by simp only[screen,hi,hq,Bool.and_false,Bool.false_and]
      rw[e3,hq,this];rfl
     |true=>
      cases r <;> first|(cases hq;done)|skip
      rename_i rows;have e4:oS [p,.int i,.int rows.length]=.ok (.bl (qU p i rows.length)):=by cases p <;> first|rfl|(cases hp;done)|exact if_pos hp
      have e5:screen (.tup [.int i,.tup rows,p])=qU p i rows.length:=by simp only[screen,hi,hq,Bool.and_true,Bool.true_and]
      rw[e3,hq,e5];show aD ((oS [p,.int i,.int rows.length]).out _ .rt |>.seq _)=_;rw[e4];rfl
   ·exact Or.inl (if_neg hf)
noncomputable def pC:List D->Option (List Int)
 | []=>some []
 |.int i::ds=>(pC ds).map (i::·)
 |_=>none
def wz:∀{ds:List D}{ns:List Int},pC ds=some ns->ds=ns.map .int
 | [],ns,h=>by cases h;rfl
 |d::ds,ns,h=>by
  cases d <;> first|(cases h;done)|skip
  rename_i i;cases q:pC ds with
  |none=>simp[pC,q]at h
  |some ms=>simp[pC,q]at h;subst h;rw[wz q];rfl
def rV:∀ns:List Int,pC (ns.map .int)=some ns
 | []=>rfl
 |i::ns=>by simp[pC,rV ns]
noncomputable def cell(ns:List Int)(k:Nat):Int:=if k<ns.length then ns.getD k 0 else if ns.length=0 then 0 else ns.getD (k % ns.length) 0 * 31+k
def vF{ns:List Int}(h:k<ns.length):atI (ns.map D.int) (k:Int)=some (.int (ns.getD k 0)):=by
 have e:ixN (ns.map D.int).length (k:Int)=some k:=by
  rw[List.length_map];simp[ixN]
  try omega
 rw[atI,e];simp[List.getD,h]
def tfr{F:List D->R D}{n:Nat}:∀ds:List D,ds.length=n->F ds=.no\/F ds=F ds:=λ_ _=>.inr rfl
noncomputable def dY:Ev->O:=(aI (oIf (gB2 ltD (rvz 1) (gOf eI (aa (rvz 0) nlz))) (aI (cG (g2 ixD (rvz 0) (rvz 1))) oNx) oNx) (aI (oIf (gB2 eqF (rvz 0) (ck (xv nlz))) (aI (cG (ciz 0)) oNx) oNx) (aI (cG (g2 dh (g2 hV (g2 ixD (rvz 0) (g2 Ai (rvz 1) (gOf eI (aa (rvz 0) nlz)))) (ciz 31)) (rvz 1))) oNx)))
noncomputable def A1:List D->R D:=λds=>aD (dY (aC 2 ds))
def zt{ns:List Int}{n:Nat}:A1 [.lst fz (ns.map .int),.int n]=.ok (.int (cell ns n)):=by
 show aD (dY [some (.val (.lst fz (ns.map .int))),some (.val (.int n))])=_;unfold dY;have t3:eI [.lst fz (ns.map .int)]=some (.int ns.length):=by simp[eI]
 by_cases h1:n<ns.length
 ·have h1':(n:Int)<(ns.length:Int):=by omega
  have x1:ixD (.lst fz (ns.map .int)) (.int n)=some (.int (ns.getD n 0)):=vF h1;simp only[aI,oIf,gB2,g2,cG,gOf,aa,rd0,rd1,R.ok_bind,R.ok_out,t3,x1,cS,ltD,asB,h1',decide_true,if_true,O.seq,aD,cell,h1]
 ·have h1' : ¬ (n:Int)<(ns.length:Int):=by omega
  cases ns with
  |nil=>rfl
  |cons a as=>
   have t4:eqF (.lst fz ((a::as).map .int)) (.lst false [])=some (.bl false):=rfl;have h2:n % (a::as).length<(a::as).length:=Nat.mod_lt _ (by simp);have x1:ixD (.lst fz ((a::as).map .int)) (.int ((n % (a::as).length:Nat):Int))=some (.int ((a::as).getD (n % (a::as).length) 0)):=vF h2;have m1:Ai (.int n) (.int (a::as).length)=some (.int ((n % (a::as).length:Nat):Int)):=by
    have:(0:Int)<((a::as).length:Int):=by simp
    simp only[Ai,this,if_true];rw[Int.natCast_emod]
   have m2:∀z:Int,hV (.int z) (.int 31)=some (.int (z * 31)):=λz=>if_pos (Or.inr (by decide));have z1:(0:Nat)<=sizeLine:=Nat.zero_le _;have z2 : ¬ (a::as).length=0:=by simp
   simp only[aI,oIf,gB2,g2,cG,gOf,aa,ck,xv,rd0,rd1,R.ok_bind,R.ok_out,t3,t4,x1,m1,m2,cS,ltD,dh,asB,h1',decide_false,Bool.false_eq_true,if_false,O.seq,oNx,aD,cell,h1,List.length_nil,z1,if_true,z2]
noncomputable def drawn(ns:List Int)(k:Nat):Int:=(cell ns k+6151 * ((k:Int)+1)) * 40692 % 2147483399
noncomputable def ib(ns:List Int)(k:Nat)(m:Int):Int:=(drawn ns k * drawn ns k+drawn ns k / 31) % 2147483629 % m
def cU(ns:List Int)(k:Nat){m:Int}(h:0<m):0<=ib ns k m/\ib ns k m<m:=⟨Int.emod_nonneg _ (by omega),Int.emod_lt_of_pos _ h⟩
noncomputable def dU(eX:List D->R D):Ev->O:=(aI (eY 3 (g2 Ai (g2 hV (g2 dh (aL 2 eX (aa (rvz 0) (aa (rvz 1) nlz))) (g2 hV (ciz 6151) (g2 dh (rvz 1) (ciz 1)))) (ciz 40692)) (ciz 2147483399))) (aI (cG (g2 Ai (g2 Ai (g2 dh (g2 hV (rvz 3) (rvz 3)) (g2 Cz (rvz 3) (ciz 31))) (ciz 2147483629)) (rvz 2))) oNx))
noncomputable def eS:List D->R D:=λds=>aD (dU A1 (aC 4 ds))
def dS{ns:List Int}{n:Nat}{m:Int}(hm:0<m):eS [.lst fz (ns.map .int),.int n,.int m]=.ok (.int (ib ns n m)):=by
 show aD (dU A1 [some (.val (.lst fz (ns.map .int))),some (.val (.int n)),some (.val (.int m)),none])=_;unfold dU;have m1:∀z:Int,hV (.int 6151) (.int z)=some (.int (6151 * z)):=λz=>by show(if ((-(2 ^ 64):Int)<6151/\(6151:Int)<2 ^ 64)\/((-(2 ^ 64):Int)<z/\z<2 ^ 64)then some (D.int (6151 * z))else none)=_;exact if_pos (Or.inl (by decide))
 have m2:∀z:Int,hV (.int z) (.int 40692)=some (.int (z * 40692)):=λz=>if_pos (Or.inr (by decide));have m3:∀z:Int,Ai (.int z) (.int 2147483399)=some (.int (z % 2147483399)):=λz=>by show(if (0:Int)<2147483399 then some (D.int (z % 2147483399))else none)=_;exact if_pos (by decide)
 have m4:∀z:Int,Ai (.int z) (.int 2147483629)=some (.int (z % 2147483629)):=λz=>by show(if (0:Int)<2147483629 then some (D.int (z % 2147483629))else none)=_;exact if_pos (by decide)
 have m5:∀z:Int,Ai (.int z) (.int m)=some (.int (z % m)):=λz=>if_pos hm;have m6:∀z:Int,Cz (.int z) (.int 31)=some (.int (z / 31)):=λz=>by show(if (0:Int)<31/\(31:Int)<1073741824 then some (D.int (z / 31))else none)=_;exact if_pos (by decide)
 have m7:∀i j:Int,dh (.int i) (.int j)=some (.int (i+j)):=λ_ _=>rfl;have hd:0<=drawn ns n/\drawn ns n<2147483399:=⟨Int.emod_nonneg _ (by decide),Int.emod_lt_of_pos _ (by decide)⟩
 have m8:hV (.int (drawn ns n)) (.int (drawn ns n))=some (.int (drawn ns n * drawn ns n)):=if_pos (Or.inl (by omega));have s1:∀v,([some (.val (.lst fz (ns.map .int))),some (.val (.int n)),some (.val (.int m)),none]:Ev).set 3 v=[some (.val (.lst fz (ns.map .int))),some (.val (.int n)),some (.val (.int m)),v]:=λ_=>rfl;have q1:(cell ns n+6151 * ((n:Int)+1)) * 40692 % 2147483399=drawn ns n:=rfl;simp only[aI,eY,cG,g2,Aj,rd0,rd1,rd2,rd3,R.ok_bind,R.ok_out,zt,m1,m2,m3,m4,m5,m6,m7,cS,O.seq,s1,q1,m8,aD,ib]
noncomputable def gH(C:Addr):List D->R D
 | [d]=>if rM d=true then (if screen d=true then .ok .non else .ex C)else .no
 |_=>.no
noncomputable def cX(fc:List D->R D)(aF:Addr):Ev->O:=(aI (oIf (gBn (aJ jU (aL 1 fc (aa (rvz 0) nlz)))) (aI (je aF (aa (csz [116,104,105,115,32,105,115,32,110,111,32,115,99,114,101,101,110]) nlz)) oNx) oNx) oNx)
def lV:∀ds:List D,ds.length=1->gH C ds=.no\/aD (cX nJ C (aC 1 ds))=gH C ds:=by
 intro ds hl;unfold cX
 match ds,hl with
 | [d],_=>
  by_cases hf:rM d=true;·refine Or.inr ?_;have e1:nJ [d]=.ok (.bl (screen d)):=if_pos hf;have e2:gH C [d]=if screen d=true then .ok .non else .ex C:=if_pos hf;rw[e2];show aD (aI _ _ [some (.val d)])=_;have t2:∀k,jU (.bl k)=.ok k:=λ_=>rfl;simp only[aI,oIf,je,gBn,aJ,D0,rd0,R.ok_bind,R.ok_out,e1,t2];cases screen d <;> rfl
  ·exact Or.inl (if_neg hf)
def EO{α:Type}(n:Nat)(x:α):(List.replicate n [x]).flatten=List.replicate n x:=by
 induction n with
 |zero=>rfl
 |succ n ih=>rw[List.replicate_succ,List.flatten_cons,ih];rfl
noncomputable def sgn(ns:List Int)(k:Nat):Nat:=([32,32,97,98,35]:List Nat).getD (ib ns k 5).toNat 0
def Ji(ns:List Int)(k:Nat):ixD (.str [32,32,97,98,35]) (.int (ib ns k 5))=some (.str [sgn ns k]):=by
 have h:=cU ns k (m:=5) (by decide);unfold sgn;generalize ib ns k 5=v at h;have:v=0\/v=1\/v=2\/v=3\/v=4:=by omega
 rcases this with rfl|rfl|rfl|rfl|rfl <;> rfl
def ye(ns:List Int)(k:Nat):32<=sgn ns k/\sgn ns k<=126:=by
 have h:=cU ns k (m:=5) (by decide);unfold sgn;generalize ib ns k 5=v at h;have:v=0\/v=1\/v=2\/v=3\/v=4:=by omega
 rcases this with rfl|rfl|rfl|rfl|rfl <;> decide
noncomputable def BC:Ev->O:=aI (eY 3 (g2 dh (rvz 3) (g2 ixD (λx=>R.ok (D.str [32,32,97,98,35])) (aL 3 eS (aa (rvz 0) (aa (g2 dh (g2 dh (rvz 1) λx=>R.ok (D.int 1)) λρ=>rdV ρ 4) (aa (λx=>R.ok (D.int 5)) λx=>R.ok []))))))) oNx
def wE(ns:List Int)(fz:Bool)(a:Nat)(W:Option Sl):∀(ks:List Nat)(x:List Nat)(kk:Option Sl),x.length+ks.length<=sizeLine->
  ∃kk',eG (lI 4) BC (ks.map λi=>D.int (0+(i:Nat))) [some (.val (.lst fz (ns.map .int))),some (.val (.int a)),W,some (.val (.str x)),kk,none]=.nx [some (.val (.lst fz (ns.map .int))),some (.val (.int a)),W,some (.val (.str (x++ks.map λk=>sgn ns (a+1+k)))),kk',none]
 | [],x,kk,_=>⟨kk,by simp[eG]⟩
 |k::ks,x,kk,h=>by
  have h':(x++[sgn ns (a+1+k)]).length+ks.length<=sizeLine:=by simp at h⊢;omega
  obtain⟨kk',ih⟩:=wE ns fz a W ks (x++[sgn ns (a+1+k)]) (some (.val (.int (0+(k:Nat))))) h';refine⟨kk',?_⟩;have hx:x.length+1<=sizeLine:=by simp at h;omega
  have c1:((a:Int)+1+(0+(k:Int)))=((a+1+k:Nat):Int):=by omega
  have p5:∀n:Nat,eS [.lst fz (ns.map .int),.int n,.int 5]=.ok (.int (ib ns n 5)):=λn=>dS (by decide);have m7:∀i j:Int,dh (.int i) (.int j)=some (.int (i+j)):=λ_ _=>rfl;have m8:dh (.str x) (.str [sgn ns (a+1+k)])=some (.str (x++[sgn ns (a+1+k)])):=if_pos hx;have hB:BC [some (.val (.lst fz (ns.map .int))),some (.val (.int a)),W,some (.val (.str x)),some (.val (.int (0+(k:Nat)))),none]=.nx [some (.val (.lst fz (ns.map .int))),some (.val (.int a)),W,some (.val (.str (x++[sgn ns (a+1+k)]))),some (.val (.int (0+(k:Nat)))),none]:=by simp only[BC,aI,eY,g2,yt,rd0,rd1,rd3,rd4,R.ok_bind,m7,c1,p5,Ji,m8,cS,R.ok_out,O.seq,oNx];rfl
  rw[List.map_cons,eG];show(match BC [some (.val (.lst fz (ns.map .int))),some (.val (.int a)),W,some (.val (.str x)),some (.val (.int (0+(k:Nat)))),none]with
   |.nx ρ2=>eG (lI 4) BC _ ρ2
   |.ct ρ2=>eG (lI 4) BC _ ρ2
   |.bk ρ2=>O.nx ρ2
   |.rt d=>O.rt d
   |.re d ρ2=>.re d ρ2
   |.ex C ρ2=>O.ex C ρ2
   |.no=>O.no)=_;rw[hB];simp only[List.map_cons];rw[ih,List.append_assoc];rfl
def Bb{α:Type}(xs:List α)(l:Nat)(h:l<=xs.length):qH xs none (some (l:Int))=xs.take l:=by
 have h1:HT.sIx xs.length 0 none=0:=rfl;have h2:HT.sIx xs.length xs.length (some (l:Int))=l:=by
  simp only[HT.sIx]
  first|omega|(split <;> omega)
 unfold qH;rw[h1,h2];simp
noncomputable def AY(ns:List Int)(a wd:Nat):List Nat:=
 if ib ns (a+20) 2=0 then (List.range wd).map λk=>sgn ns (a+1+k)else ((List.range wd).map λk=>sgn ns (a+1+k)).take (ib ns a (wd+1)).toNat++List.replicate (wd - (ib ns a (wd+1)).toNat) 32
def tK(ns:List Int)(a wd:Nat):(AY ns a wd).length=wd:=by
 have h:=cU ns a (m:=(wd:Int)+1) (by omega);unfold AY;split;·simp
 ·simp;omega
def wU(ns:List Int)(a wd:Nat):plain (AY ns a wd)=true:=by
 have hm:∀c∈(List.range wd).map (λk=>sgn ns (a+1+k)),32<=c/\c<=126:=by intro c hc;obtain⟨k,_,rfl⟩:=List.mem_map.1 hc;exact ye ns _
 unfold plain;rw[List.all_eq_true];intro c hc;have:32<=c/\c<=126:=by
  unfold AY at hc;split at hc;·exact hm c hc
  ·rcases List.mem_append.1 hc with q|q;·exact hm c (List.mem_of_mem_take q)
   ·have:=(List.mem_replicate.1 q).2;omega
 simp[this.1,this.2]
def yV(h:wd<=100):ca [.int (wd:Int)]=.ok ((List.range wd).map λi=>D.int (0+(i:Nat))):=by
 have e:ca [.int (wd:Int)]=if -(2 ^ 62)<=(wd:Int)/\(wd:Int)<2 ^ 62 then .ok ((List.range (wd:Int).toNat).map λi=>D.int (0+(i:Nat)))else .no:=by simp only[ca]
 rw[e,if_pos (by constructor <;> omega),Int.toNat_natCast]
def K7{ns:List Int}{a:Nat}:eS [.lst fz (ns.map .int),.int ((a+20:Nat):Int),.int 2]=.ok (.int (ib ns (a+20) 2)):=dS (by decide)
noncomputable def JZ(pk:List D->R D):Ev->O:=aI (eY 5 (aL 3 pk (aa (rvz 0) (aa (rvz 1) (aa (g2 dh (rvz 2) λx=>R.ok (D.int 1)) λx=>R.ok [])))))
 (aI (cG (gIf (gB2 eqF (aL 3 pk (aa (rvz 0) (aa (g2 dh (rvz 1) λx=>R.ok (D.int 20)) (aa (λx=>R.ok (D.int 2)) λx=>R.ok [])))) λx=>R.ok (D.int 0)) (rvz 3)
  (g2 dh (gSl (rvz 3) (λx=>R.ok none) (rR λρ=>rdV ρ 5)) (g2 hV (λx=>R.ok (D.str [32])) (g2 qO (rvz 2) λρ=>rdV ρ 5))))) oNx)
def zv{n:Nat}(h:n<=100):hV (.str [32]) (.int (n:Int))=some (.str (List.replicate n 32)):=by
 have hz:(100:Nat)<=sizeLine:=by decide
 have e:[32]=[32]:=rfl;rw[e,<- EO n 32];simp only[hV];rw[if_pos (by refine⟨by omega,by omega,?_⟩;simp;omega),Int.toNat_natCast]
def Fj(pk:List D->R D)(S:D)(a wd l:Nat)(z:Int)(x:List Nat)(kk:Option Sl)(h1:pk [S,.int a,.int ((wd:Int)+1)]=.ok (.int (l:Int)))(h2:pk [S,.int ((a:Int)+20),.int 2]=.ok (.int z))(hx:x.length=wd)(hw:wd<=100)(hl:l<=wd):
  JZ pk [some (.val S),some (.val (.int a)),some (.val (.int wd)),some (.val (.str x)),kk,none]=.rt (.str (if z=0 then x else x.take l++List.replicate (wd - l) 32)):=by
 have c1:(wd:Int) - (l:Int)=((wd - l:Nat):Int):=by omega
 have m1:hV (.str [32]) (.int ((wd - l:Nat):Int))=some (.str (List.replicate (wd - l) 32)):=zv (by omega);have m2:dh (.str (x.take l)) (.str (List.replicate (wd - l) 32))=some (.str (x.take l++List.replicate (wd - l) 32)):=HQ (by have:=cz;simp;omega);have m3:=KN x l;unfold JZ;clear hx hw hl
 walk_at "run"
 by_cases hz:z=0;·simp only[hz,if_true,beq_self_eq_true,R.ok_out,Lx]
 ·have:(z==0)=false:=by simp[hz]
  simp only[hz,this,if_false,Bool.false_eq_true,R.ok_out,Lx]
noncomputable def xr(ad:List D->R D):Ev->O:=(aI (eY 3 (g2 dh (rvz 3) (g2 ixD (csz [32,32,97,98,35]) (aL 3 ad (aa (rvz 0) (aa (g2 dh (g2 dh (rvz 1) (ciz 1)) (rvz 4)) (aa (ciz 5) nlz))))))) oNx)
noncomputable def ju(ad:List D->R D):Ev->O:=(aI (eY 3 (csz [])) (aI (wF (lI 4) (aJ ca (aa (rvz 2) nlz)) (xr ad)) (aI (eY 5 (aL 3 ad (aa (rvz 0) (aa (rvz 1) (aa (g2 dh (rvz 2) (ciz 1)) nlz))))) (aI (cG (gIf (gB2 eqF (aL 3 ad (aa (rvz 0) (aa (g2 dh (rvz 1) (ciz 20)) (aa (ciz 2) nlz)))) (ciz 0)) (rvz 3) (g2 dh (gSl (rvz 3) (λ_=>R.ok none) (rR (rvz 5))) (g2 hV (csz [32]) (g2 qO (rvz 2) (rvz 5)))))) oNx))))
noncomputable def JQ:List D->R D:=λds=>aD (ju eS (aC 6 ds))
def Cv{ns:List Int}{a:Nat}(hw3:wd<=100):JQ [.lst fz (ns.map .int),.int (a:Int),.int (wd:Int)]=.ok (.str (AY ns a wd)):=by
 show aD (aI (eY 3 (csz [])) (aI (wF (lI 4) (aJ ca (aa (rvz 2) λ_=>R.ok [])) BC) (JZ eS)) [some (.val (.lst fz (ns.map .int))),some (.val (.int a)),some (.val (.int wd)),none,none,none])=_;obtain⟨kk',hL⟩:=wE ns fz a (some (.val (.int wd))) (List.range wd) [] none (by have:=cz;simp;omega);have s2:wF (lI 4) (aJ ca (aa (rvz 2) λ_=>R.ok [])) BC [some (.val (.lst fz (ns.map .int))),some (.val (.int a)),some (.val (.int wd)),some (.val (.str [])),none,none]=.nx [some (.val (.lst fz (ns.map .int))),some (.val (.int a)),some (.val (.int wd)),some (.val (.str ([]++(List.range wd).map λk=>sgn ns (a+1+k)))),kk',none]:=by rw[Gn,yK,kY,show ∀i ρ,rvz i ρ=rdV ρ i from λ_ _=>rfl,rd2,R.ok_bind,R.ok_bind,R.ok_bind,yV hw3,R.ok_out];exact hL
 have hp:=cU ns a (m:=(wd:Int)+1) (by omega);have s3:=Fj eS (.lst fz (ns.map .int)) a wd (ib ns a ((wd:Int)+1)).toNat (ib ns (a+20) 2) ([]++(List.range wd).map λk=>sgn ns (a+1+k)) kk'
  (by rw[Int.toNat_of_nonneg hp.1];exact dS (by omega)) (by exact K7) (by simp) hw3 (by omega);rw[FH,IC,R.ok_out,Gp,FH];show aD ((wF (lI 4) _ BC [some (.val (.lst fz (ns.map .int))),some (.val (.int a)),some (.val (.int wd)),some (.val (.str [])),none,none]).seq _)=_;rw[s2,Gp,s3,Mo];unfold AY;rw[List.nil_append]
noncomputable def uS(ns:List Int)(a wd m:Nat):List D:=(List.range m).map λk=>.str (AY ns (a+30 * k) wd)
noncomputable def MC(ns:List Int)(a wd m:Nat):D:=.tup [.int wd,.tup (uS ns a wd m),.tup [.int (ib ns (a+400) m),.int (ib ns (a+401) (wd+1))]]
noncomputable def fS(gD ad:List D->R D):Ev->O:=(aI (eY 4 (gOf jL (aa (ck (fy (aJ ca (aa (rvz 3) nlz)) [0,1,2] (λ_=>R.ok true) (aL 3 gD (aa (rvz 1) (aa (g2 dh (rvz 2) (g2 hV (ciz 30) (rvz 0))) (aa (rvz 3) nlz)))))) nlz))) (aI (cG (aJ mkT (aa (rvz 2) (aa (rvz 4) (aa (aJ mkT (aa (aL 3 ad (aa (rvz 0) (aa (g2 dh (rvz 1) (ciz 400)) (aa (rvz 3) nlz)))) (aa (aL 3 ad (aa (rvz 0) (aa (g2 dh (rvz 1) (ciz 401)) (aa (g2 dh (rvz 2) (ciz 1)) nlz)))) nlz))) nlz))))) oNx))
noncomputable def B1:List D->R D:=λds=>aD (fS JQ eS (aC 5 ds))
def As{ns:List Int}{a m:Nat}(hw3:wd<=100)(hm:0<m)(hm3:m<=100):B1 [.lst fz (ns.map .int),.int (a:Int),.int (wd:Int),.int (m:Int)]=.ok (MC ns a wd m):=by
 have e:fB (λ_=>R.ok true) (aL 3 JQ (aa (rvz 1) (aa (g2 dh (rvz 2) (g2 hV (ciz 30) λρ=>rdV ρ 0)) (aa (rvz 3) λ_=>R.ok []))))
   ((List.range m).map λ(i:Nat)=>D.int (i:Int)) [none,some (.val (.lst fz (ns.map .int))),some (.val (.int a)),some (.val (.int wd))]=.ok (((List.range m).map λ(i:Nat)=>D.int (i:Int)).map λd=>match d with|.int k=>.str (AY ns (a+30 * k.toNat) wd)|d=>d):=by
  refine iR _ _ _ none λd hd=>⟨rfl,?_⟩
  obtain⟨k,_,rfl⟩:=List.mem_map.1 hd;have m1:hV (.int 30) (.int (k:Int))=some (.int ((30 * k:Nat):Int)):=by rw[Ig (by decide)];congr 2
  have m2:(a:Int)+((30 * k:Nat):Int)=((a+30 * k:Nat):Int):=by omega
  have m3:=Cv (fz:=fz) (ns:=ns) (a:=a+30 * k) hw3
  walk_at "run"
  simp only[Int.toNat_natCast]
 show aD (aI _ _ [some (.val (.lst fz (ns.map .int))),some (.val (.int a)),some (.val (.int wd)),some (.val (.int m)),none])=_;have i1:gR [0,1,2] [some (.val (.lst fz (ns.map .int))),some (.val (.int a)),some (.val (.int wd)),some (.val (.int m)),none]=[none,some (.val (.lst fz (ns.map .int))),some (.val (.int a)),some (.val (.int wd))]:=rfl;have r1:ca [.int (m:Int)]=.ok ((List.range m).map λ(i:Nat)=>D.int (i:Int)):=pN (by omega);have z1:(((List.range m).map λ(i:Nat)=>D.int (i:Int)).map λd=>match d with|.int k=>.str (AY ns (a+30 * k.toNat) wd)|d=>d)=uS ns a wd m:=by rw[List.map_map];unfold uS;refine List.map_congr_left λk _=>?_;simp
 have z2:(uS ns a wd m).length<=sizeLine:=by have:=cz;unfold uS;simp;omega
 have p1:eS [.lst fz (ns.map .int),.int ((a:Int)+400),.int (m:Int)]=.ok (.int (ib ns (a+400) m)):=by have:=dS (fz:=fz) (ns:=ns) (n:=a+400) (m:=m) (by omega);exact this
 have p2:eS [.lst fz (ns.map .int),.int ((a:Int)+401),.int ((wd:Int)+1)]=.ok (.int (ib ns (a+401) (wd+1))):=by have:=dS (fz:=fz) (ns:=ns) (n:=a+401) (m:=(wd:Int)+1) (by omega);exact this
 have k1:∀x:List D,jL [.lst false x]=some (.tup x):=λ_=>rfl;have k2:∀x y:D,mkT [x,y]=.ok (.tup [x,y]):=λ_ _=>m_t (by simp);have k3:∀x y z:D,mkT [x,y,z]=.ok (.tup [x,y,z]):=λ_ _ _=>m_t (by simp);rw[z1]at e;clear hm hw3 hm3 z1
 walk_at "run"
 rfl
noncomputable def cl:Nat->D->Bool
 | 0,_=>false
 |_+1,.exc _=>false
 |_+1,.dct _ _=>false
 |n+1,.tup xs=>xs.all (cl n)
 |n+1,.lst _ xs=>xs.all (cl n)
 |_+1,_=>true
def qf{f:D->D->Option Bool}:∀xs:List D,(∀x∈xs,f x x=some true)->eqZ f xs xs=some (xs.map λ_=>true)
 | [],_=>rfl
 |x::xs,h=>by rw[eqZ,h x (List.mem_cons_self ..),qf xs λy hy=>h y (List.mem_cons_of_mem _ hy)];rfl
def qj{α:Type}:∀xs:List α,(xs.map λ_=>true).all id=true
 | []=>rfl
 |_::xs=>by rw[List.map_cons,List.all_cons,qj xs];rfl
def lK:∀(n m:Nat)(d:D),n<=m->cl n d=true->eqD m d d=some true
 | 0,_,_,_,h=>by simp[cl]at h
 |n+1,0,_,h,_=>by omega
 |n+1,m+1,d,hm,h=>by
  cases d <;> first|(simp[cl]at h;done)|(simp[eqD];done)|skip
  ·rename_i xs;simp only[cl,List.all_eq_true]at h;have:=qf (f:=eqD m) xs λx hx=>lK n m x (by omega) (h x hx);simp only[eqD,this,Option.map_some,qj,beq_self_eq_true,Bool.and_true]
  ·rename_i fz xs;simp only[cl,List.all_eq_true]at h;have:=qf (f:=eqD m) xs λx hx=>lK n m x (by omega) (h x hx);simp only[eqD,if_true,this,Option.map_some,qj]
def zY(h:cl 10 d=true):neF d d=some (.bl false):=by unfold neF;rw[lK 10 40 d (by omega) h];rfl
def B0(h:cl 10 d=true):eqF d d=some (.bl true):=by unfold eqF;rw[lK 10 40 d (by omega) h];rfl
noncomputable def Mm:List Nat->D->D->Option D
 | [],_,v=>some v
 |k::ks,.tup xs,v=>match xs[k]? with
  |some x=>if xs.length<=1000 then (Mm ks x v).map λy=>.tup (xs.take k++[y]++xs.drop (k+1))else none
  |none=>none
 |_,_,_=>none
noncomputable def Hr:List D->Option (List Nat)
 | []=>some []
 |.int i::ds=>if 0<=i then (Hr ds).map (i.toNat::·)else none
 |_::_=>none
noncomputable def oT(n:Nat):List D->R D
 | [d,.tup p,v]=>match Hr p with
  |some ks=>if ks.length<n/\n<=500 then ofO (Mm ks d v)else .no
  |none=>.no
 |_=>.no
noncomputable def pt:Nat->D->Bool
 | 0,_=>false
 |_+1,.int _=>true
 |_+1,.str x=>decide (x.length<=900)
 |n+1,.tup xs=>xs.all (pt n) && decide (xs.length<=900)
 |_+1,_=>false
noncomputable def L1:Nat->D->Bool
 | 0,_=>true
 |_+1,.exc _=>false
 |_+1,.dct _ _=>false
 |_+1,.str x=>decide (x.length<=1000)
 |n+1,.tup xs=>xs.all (L1 n)
 |n+1,.lst _ xs=>xs.all (L1 n)
 |_+1,_=>true
noncomputable def kB(bC:List D->R D):Ev->O:=(aI (cG (oq (g2 eqF (gOf eI (aa (rvz 0) nlz)) (ciz 2)) (oq (g2 eqF (g2 ixD (rvz 0) (ciz 0)) (csz [115,97,121])) (oq (aL 1 bC (aa (g2 ixD (rvz 0) (ciz 1)) nlz)) (g3 leD leD (ciz 1) (gOf eI (aa (g2 ixD (rvz 0) (ciz 1)) nlz)) (ciz 40)))))) oNx)
noncomputable def nP(aU:List D->R D):Ev->O:=(aI (oIf (nV (gB2 neF (gOf eI (aa (rvz 0) nlz)) (ciz 3)) (gB2 neF (g2 ixD (rvz 0) (ciz 0)) (csz [103,111]))) (aI (cG (λ_=>R.ok (D.bl false))) oNx) oNx) (aI (cG (oq (aL 3 aU (aa (g2 ixD (rvz 0) (ciz 1)) (aa (ciz 0) (aa (g2 qO (ciz 12) (ciz 1)) nlz)))) (aL 3 aU (aa (g2 ixD (rvz 0) (ciz 2)) (aa (ciz 0) (aa (ciz 40) nlz)))))) oNx))
noncomputable def iE(jX nh:List D->R D):Ev->O:=(aI (oIf (gBn (aJ jU (aJ (km (·=="tuple")) (rvz 0)))) (aI (cG (λ_=>R.ok (D.bl false))) oNx) oNx) (aI (cG (gOr (aL 1 jX (aa (rvz 0) nlz)) (gOr (aL 1 nh (aa (rvz 0) nlz)) (g2 eqF (rvz 0) (aJ mkT (aa (csz [119,105,112,101]) nlz)))))) oNx))
noncomputable def fg(gC:List D->R D)(bU:Addr):Ev->O:=(aI (oIf (gBn (aJ jU (aL 1 gC (aa (rvz 0) nlz)))) (aI (je bU (aa (csz [116,104,105,115,32,105,115,32,110,111,32,111,114,100,101,114]) nlz)) oNx) oNx) oNx)
noncomputable def scr(wd:Nat)(rows:List (List Nat))(r c:Nat):D:=.tup [.int (wd:Int),.tup (rows.map .str),.tup [.int (r:Int),.int (c:Int)]]
structure SOk(wd:Nat)(rows:List (List Nat))(r c:Nat):Prop where
 w:wd<=100
 c:c<=wd
 r:r<rows.length
 m:rows.length<=100
 l:∀x∈rows,x.length=wd
noncomputable def fh(cA:List D->R D)(bU:Addr):Ev->O:=(aI (ka (aL 1 cA (aa (rvz 1) nlz))) oNx)
noncomputable def eD(cA:List D->R D)(bU:Addr):Ev->O:=(aI (oIf (gBn (aJ jU (aJ (km (·=="list")) (rvz 0)))) (aI (je bU (aa (csz [116,104,105,115,32,105,115,32,110,111,32,108,105,115,116,32,111,102,32,111,114,100,101,114,115]) nlz)) oNx) oNx) (aI (wF (lI 1) (aJ ce (rvz 0)) (fh cA bU)) oNx))
noncomputable def fQ:Ev->O:=(aI (oIf (gB2 eqF (g2 ixD (rvz 0) (ciz 0)) (csz [115,97,121])) (aI (cG (gOf eI (aa (g2 ixD (rvz 0) (ciz 1)) nlz))) oNx) oNx) (aI (oIf (gB2 eqF (g2 ixD (rvz 0) (ciz 0)) (csz [103,111])) (aI (cG (ciz 2)) oNx) oNx) (aI (cG (ciz 1)) oNx)))
noncomputable def pP(bh bV:List D->R D):Ev->O:=(aI (ka (aL 1 bh (aa (rvz 0) nlz))) (aI (cG (gOf Go (aa (ck (fy (aJ ce (rvz 0)) [] (λ_=>R.ok true) (aL 1 bV (aa (rvz 0) nlz)))) nlz))) oNx))
noncomputable def dq:Ev->O:=(aI (oIf (gB2 neF (g2 ixD (rvz 0) (ciz 0)) (g2 ixD (rvz 1) (ciz 0))) (aI (cG (λ_=>R.ok D.non)) oNx) oNx) (aI (oIf (gB2 neF (g2 ixD (rvz 0) (ciz 0)) (csz [115,97,121])) (aI (cG (rvz 1)) oNx) oNx) (aI (eY 2 (g2 dh (g2 ixD (rvz 0) (ciz 1)) (g2 ixD (rvz 1) (ciz 1)))) (aI (cG (gIf (gB2 leD (gOf eI (aa (rvz 2) nlz)) (ciz 40)) (aJ mkT (aa (csz [115,97,121]) (aa (rvz 2) nlz))) (λ_=>R.ok D.non))) oNx))))
noncomputable def fH(bh bG:List D->R D):Ev->O:=(aI (ER 1 3 (gIf (gB2 gtD (gOf eI (aa (rvz 1) nlz)) (ciz 0)) (aL 2 bG (aa (g2 ixD (rvz 1) (aJ ox (ciz 1))) (aa (rvz 2) nlz))) (λ_=>R.ok D.non))) (aI (oIf (gB2 isF (rvz 3) (λ_=>R.ok D.non)) (aI (JW 1 (rvz 2)) oNx) (aI (FJ 1 (aJ ox (ciz 1)) (rvz 3)) oNx)) oNx))
noncomputable def gP(bh bG:List D->R D):Ev->O:=(aI (ka (aL 1 bh (aa (rvz 0) nlz))) (aI (Ck 1 (xv nlz)) (aI (wF (lI 2) (aJ ce (rvz 0)) (fH bh bG)) (EW 1 (aI (cG (rvz 1)) oNx)))))
inductive Od where
 |say (x:List Nat)
 |go (r c:Nat)
 |wipe
noncomputable def oD:Od->D
 |.say x=>.tup [.str [115,97,121],.str x]
 |.go r c=>.tup [.str [103,111],.int (r:Int),.int (c:Int)]
 |.wipe=>.tup [.str [119,105,112,101]]
noncomputable def okO:Od->Bool
 |.say x=>plain x && (decide (1<=x.length) && decide (x.length<=40))
 |.go r c=>decide (r<=11) && decide (c<=40)
 |.wipe=>true
noncomputable def dm:Od->Nat
 |.say x=>x.length
 |.go _ _=>2
 |.wipe=>1
noncomputable def jA:Od->Od->Option Od
 |.say x,.say y=>if x.length+y.length<=40 then some (.say (x++y))else none
 |.go _ _,.go r c=>some (.go r c)
 |.wipe,.wipe=>some .wipe
 |_,_=>none
noncomputable def qN:Od->Nat
 |.say x=>x.length
 |_=>0
noncomputable def jD:Option Od->D
 |some o=>oD o
 |none=>.non
noncomputable def fZ(acc:List Od)(o:Od):List Od:=match acc.getLast? with
 |none=>[o]
 |some l=>match jA l o with
  |some j=>acc.dropLast++[j]
  |none=>acc++[o]
def tu(o:Od):fZ [] o=[o]:=rfl
def kA{acc:List Od}{l o j:Od}(h:jA l o=some j):fZ (acc++[l]) o=acc++[j]:=by simp[fZ,h]
def nB{acc:List Od}{l o:Od}(h:jA l o=none):fZ (acc++[l]) o=acc++[l]++[o]:=by simp[fZ,h]
noncomputable def shO(os:List Od):List Od:=os.foldl fZ []
def E9(l:List Od):l=[]\/∃l' b,l=l'++[b]:=by
 rcases List.eq_nil_or_concat l with h|⟨l',b,h⟩;·exact .inl h
 ·exact .inr ⟨l',b,by rw[h,List.concat_eq_append]⟩
def Ke(o:Od):fl 10 (oD o)=true:=by cases o <;> rfl
noncomputable def Hh(os:List Od):Nat:=(os.map qN).sum
def Bp{l o j:Od}(h:jA l o=some j):qN j=qN l+qN o/\dm j<=dm l+dm o:=by
 cases l <;> cases o <;> simp[jA]at h;·obtain⟨_,rfl⟩:=h;simp[qN,dm]
 ·subst h;simp[qN,dm]
 ·subst h;simp[qN,dm]
def wf(acc:List Od)(o:Od):Hh (fZ acc o)=Hh acc+qN o/\(fZ acc o).length<=acc.length+1/\((fZ acc o).map dm).sum<=(acc.map dm).sum+dm o:=by
 rcases E9 acc with rfl|⟨a,l,rfl⟩;·rw[tu];simp[Hh]
 ·cases hj:jA l o with
  |none=>rw[nB hj];simp[Hh,List.sum_append];omega
  |some j=>obtain⟨h1,h2⟩:=Bp hj;rw[kA hj];simp[Hh,List.sum_append];omega
noncomputable def lj(aB:Addr)(aG:List D->R D):Ev->O:=(aI (ka (aL 1 aG (aa (rvz 1) nlz))) (aI (zF aB 0 0 (xv (aa (aJ mkT (aa (csz [109,97,100,101]) (aa (rvz 1) (aa (ciz 0) nlz)))) nlz))) (aI (zF aB 0 1 (xv nlz)) oNx)))
noncomputable def ki(aB:Addr):Ev->O:=(aI (cG (g2 ixD (vQ aB 0 0 (aJ ox (ciz 1))) (ciz 1))) oNx)
noncomputable def jJ(aB:Addr):Ev->O:=(aI (cG (g2 ixD (vQ aB 0 0 (aJ ox (ciz 1))) (ciz 2))) oNx)
noncomputable def iu(aB:Addr)(au:MF):Ev->O:=(aI (BZ aB 0 0 (aJ mkT (aa (rvz 1) (aa (rvz 2) (aa (g2 dh (bZ aB 0 au) (rvz 3)) nlz))))) (aI (zF aB 0 1 (xv nlz)) oNx))
noncomputable def kU(aB iX:Addr):Ev->O:=(aI (oIf (gB2 eqF (mz aB 0 0) (ciz 1)) (aI (je iX (aa (csz [116,104,101,114,101,32,105,115,32,110,111,32,115,116,101,112,32,116,104,97,116,32,99,97,110,32,98,101,32,116,97,107,101,110,32,98,97,99,107]) nlz)) oNx) oNx) (aI (BE aB 0 0 1) (aI (BZ aB 0 1 (rvz 1)) (aI (CA (g2 ixD (rvz 1) (ciz 0))) oNx))))
def gW{m:Bool}{fs:List (Nat×Fd)}(h:ρ[i]?=some (some (.obj m C p fs))):oH C ρ i=.ok fs:=by unfold oH;rw[h];exact if_pos rfl
def iJ{fs:List (Nat×Fd)}(h:ρ[i]?=some (some (.obj true C p fs))):pS C ρ i=.ok (p,fs):=by unfold pS;rw[h];exact if_pos rfl
noncomputable def cF:List Nat:=[109,97,100,101]
noncomputable def bS(sts tk:List D):List (Nat×Fd):=[(0,.own sts),(1,.own tk)]
noncomputable def st3(a b:D)(c:Int):D:=.tup [a,b,.int c]
noncomputable def EJ:List (Nat×Fd)->Option (List D×List D)
 | [(0,.own a),(1,.own b)]=>some (a,b)
 |_=>none
def zi{fs:List (Nat×Fd)}{a b:List D}(h:EJ fs=some (a,b)):fs=bS a b:=by
 unfold EJ at h;split at h;·cases h;rfl
 ·cases h
noncomputable def t3D:D->Option (D×D×Int)
 |.tup [a,b,.int c]=>some (a,b,c)
 |_=>none
def HF{a b:D}{c:Int}(h:t3D d=some (a,b,c)):d=st3 a b c:=by
 unfold t3D at h;split at h;·cases h;rfl
 ·cases h
noncomputable def xh(sts:List D):Option (D×D×Int):=sts.getLast?.bind t3D
def Cd{sts:List D}{a b:D}{c:Int}(h:xh sts=some (a,b,c)):∃l,sts=l++[st3 a b c]:=by
 unfold xh at h;cases q:sts.getLast? with
 |none=>rw[q]at h;cases h
 |some d=>rw[q]at h;have e:=HF h;subst e;exact List.getLast?_eq_some_iff.1 q
def zK(l:List D)(a b:D)(c:Int):xh (l++[st3 a b c])=some (a,b,c):=by unfold xh;rw[List.getLast?_concat];rfl
def yM(l:List D)(d:D):ixD (.lst false (l++[d])) (.int (-1))=some d:=by
 show atI (l++[d]) (-1)=some d;have e:ixN (l++[d]).length (-1)=some l.length:=by unfold ixN;rw[if_neg (by decide),if_pos (by simp;omega)];simp;omega
 unfold atI;rw[e];simp
section
variable{Cs Co Cr Cb Cp:Addr}
noncomputable def jV(Cs:Addr):MF:=λfs ds=>match fs,ds with
 | [],[d]=>(match gH Cs [d]with
  |.ok _=>.ok .non (bS [st3 (.str cF) d 0] [])
  |.ex E=>.ex E
  |.no=>.no)
 |_,_=>.no
noncomputable def zm(k:List D->List D->D->D->Int->List D->RM):MF:=λfs ds=>match EJ fs with
 |none=>.no
 |some (sts,tk)=>(match xh sts with
  |none=>.no
  |some (a,b,c)=>k sts tk a b c ds)
noncomputable def dQ:MF:=zm λ_ _ _ b _ ds=>match ds with
 | []=>.rd b
 |_=>.no
noncomputable def ff:MF:=zm λ_ _ _ _ c ds=>match ds with
 | []=>.rd (.int c)
 |_=>.no
noncomputable def Ag:MF:=zm λsts _ _ _ c ds=>match ds with
 | [a,b,.int p]=>if sts.length<1000 then .ok .non (bS (sts++[st3 a b (c+p)]) [])else .no
 |_=>.no
noncomputable def jW(Cb:Addr):MF:=zm λsts tk a b c ds=>match ds with
 | []=>if sts.length=1 then .ex Cb else if tk.length<1000 then .ok a (bS sts.dropLast (tk++[st3 a b c]))else .no
 |_=>.no
def eV(k:List D->List D->D->D->Int->List D->RM)(l tk:List D)(a b:D)(c:Int)(ds:List D):zm k (bS (l++[st3 a b c]) tk) ds=k (l++[st3 a b c]) tk a b c ds:=by unfold zm;have e:EJ (bS (l++[st3 a b c]) tk)=some (l++[st3 a b c],tk):=rfl;rw[e];dsimp only;rw[zK]
def kQ{n:Nat}{k:List D->List D->D->D->Int->List D->RM}(h:∀p l tk a b c ds,match k (l++[st3 a b c]) tk a b c ds with
 |.ok d fs'=>∃ρ',ρ'[0]?=some (some (.obj true Cp p fs'))/\(g (dA true Cp p (bS (l++[st3 a b c]) tk) n ds)=.re d ρ'\/(g (dA true Cp p (bS (l++[st3 a b c]) tk) n ds)=.nx ρ'/\d=.non))
 |.rd d=>g (dA false Cp p (bS (l++[st3 a b c]) tk) n ds)=.rt d
 |.ex E=>∃ρ',g (dA false Cp p (bS (l++[st3 a b c]) tk) n ds)=.ex E ρ'
 |.no=>True):cV Cp g n (zm k):=by
 intro p fs ds;cases q:EJ fs with
 |none=>simp only[zm,q]
 |some z=>
  obtain⟨sts,tk⟩:=z;have e:=zi q;subst e;cases q2:xh sts with
  |none=>simp only[zm,q,q2]
  |some z2=>obtain⟨a,b,c⟩:=z2;obtain⟨l,rfl⟩:=Cd q2;have:=h p l tk a b c ds;rw[eV];exact this
def fl0(sts tk:List D):fldL (bS sts tk) 0=.ok sts:=rfl
def fl1(sts tk:List D):fldL (bS sts tk) 1=.ok tk:=rfl
def pk0(sts tk x:List D):jm 0 (.own x) (bS sts tk)=bS x tk:=rfl
def pk1(sts tk x:List D):jm 1 (.own x) (bS sts tk)=bS sts x:=rfl
def D9:cV Cp (ki Cp) 1 dQ:=by
 refine kQ λp l tk a b c ds=>?_;cases ds with
 |cons _ _=>trivial
 |nil=>
  have l1:=yM l (st3 a b c);have f0:=fl0 (l++[st3 a b c]) tk;have o0:∀r,oH Cp (some (.obj false Cp p (bS (l++[st3 a b c]) tk))::r) 0=.ok (bS (l++[st3 a b c]) tk):=λr=>gW rfl;have ng1:ox (.int 1)=.ok (.int (-1)):=rfl;have i1:ixD (st3 a b c) (.int 1)=some b:=rfl;show aI _ _ [some (.obj false Cp p (bS (l++[st3 a b c]) tk))]=_
  walk_at "run"
def Gh:cV Cp (jJ Cp) 1 ff:=by
 refine kQ λp l tk a b c ds=>?_;cases ds with
 |cons _ _=>trivial
 |nil=>
  have l1:=yM l (st3 a b c);have f0:=fl0 (l++[st3 a b c]) tk;have o0:∀r,oH Cp (some (.obj false Cp p (bS (l++[st3 a b c]) tk))::r) 0=.ok (bS (l++[st3 a b c]) tk):=λr=>gW rfl;have ng1:ox (.int 1)=.ok (.int (-1)):=rfl;have i1:ixD (st3 a b c) (.int 2)=some (.int c):=rfl;show aI _ _ [some (.obj false Cp p (bS (l++[st3 a b c]) tk))]=_
  walk_at "run"
def Hj{l:List D}(h:(l++[d]).length<1000):(l++[d]).length<sizeLine:=Nat.lt_trans h (by decide)
def IY:cV Cp (iu Cp ff) 4 Ag:=by
 refine kQ λp l tk a b c ds=>?_
 match ds with
 | []=>trivial
 | [_]=>trivial
 | [_,_]=>trivial
 |_::_::_::_::_=>simp
 | [x,y,z]=>
  cases z with
  |int pr=>
   dsimp only;by_cases hl:(l++[st3 a b c]).length<1000
   ·rw[if_pos hl];dsimp only;have f0:=fl0 (l++[st3 a b c]) tk;have lk:=Hj hl;have s1:ff (bS (l++[st3 a b c]) tk) []=.rd (.int c):=eV _ l tk a b c [];have o0:∀r,oH Cp (some (.obj true Cp p (bS (l++[st3 a b c]) tk))::r) 0=.ok (bS (l++[st3 a b c]) tk):=λr=>gW rfl;have o1:∀r fs,pS Cp (some (.obj true Cp p fs)::r) 0=.ok (p,fs):=λr fs=>iJ rfl;have mk3:∀x y z,mkT [x,y,z]=.ok (.tup [x,y,z]):=λ_ _ _=>rfl;have k0:=pk0 (l++[st3 a b c]) tk;have k1:=pk1 (l++[st3 a b c]++[st3 x y (c+pr)]) tk;have w:(bS (l++[st3 a b c]++[st3 x y (c+pr)]) tk).length<900:=by show 2<900;decide
    have e3:D.tup [x,y,D.int (c+pr)]=st3 x y (c+pr):=rfl;have z0:0<=sizeLine:=by decide
    have z3:3<=sizeLine:=by decide
    refine⟨[some (.obj true Cp p (bS (l++[st3 a b c]++[st3 x y (c+pr)]) [])),some (.val x),some (.val y),some (.val (.int pr))],rfl,.inr ⟨?_,rfl⟩⟩;show aI _ _ [some (.obj true Cp p (bS (l++[st3 a b c]) tk)),some (.val x),some (.val y),some (.val (.int pr))]=_;clear hl
    walk_at "run"
   ·rw[if_neg hl];trivial
  |_=>trivial
def GY:cV Cp (kU Cp Cb) 2 (jW Cb):=by
 refine kQ λp l tk a b c ds=>?_
 match ds with
 |_::_=>trivial
 | []=>
  dsimp only;have f0:=fl0 (l++[st3 a b c]) tk;have o0:∀m r,oH Cp (some (.obj m Cp p (bS (l++[st3 a b c]) tk))::r) 0=.ok (bS (l++[st3 a b c]) tk):=λm r=>gW rfl;by_cases h1:(l++[st3 a b c]).length=1
  ·rw[if_pos h1];dsimp only;refine⟨[some (.obj false Cp p (bS (l++[st3 a b c]) tk)),none],?_⟩;show aI _ _ [some (.obj false Cp p (bS (l++[st3 a b c]) tk)),none]=_;have e1:D.int ((l++[st3 a b c]).length:Int)=.int 1:=by rw[h1];rfl
   clear h1
   walk_at "run"
  ·rw[if_neg h1];by_cases hl:tk.length<1000
   ·rw[if_pos hl];dsimp only;have e1:eqF (D.int ((l++[st3 a b c]).length:Int)) (.int 1)=some (.bl false):=by rw[L6];simp at h1⊢;intro z;exact h1 (List.length_eq_zero_iff.1 (by omega))
    have lk:tk.length<sizeLine:=Nat.lt_trans hl (by decide);have f1:∀x,fldL (bS x tk) 1=.ok tk:=λx=>rfl;have o1:∀r fs,pS Cp (some (.obj true Cp p fs)::r) 0=.ok (p,fs):=λr fs=>iJ rfl;have pp:BE Cp 0 0 1 [some (.obj true Cp p (bS (l++[st3 a b c]) tk)),none]=.nx [some (.obj true Cp p (bS (l++[st3 a b c]).dropLast tk)),some (.val (st3 a b c))]:=by unfold BE;rw[o1,R.ok_out];dsimp only;rw[f0,R.ok_out,List.getLast?_concat];rfl
    have k1:∀x y,jm 1 (.own y) (bS x tk)=bS x y:=λx y=>rfl;have ix0:ixD (st3 a b c) (.int 0)=some a:=rfl;refine⟨[some (.obj true Cp p (bS (l++[st3 a b c]).dropLast (tk++[st3 a b c]))),some (.val (st3 a b c))],rfl,.inl ?_⟩;show aI _ _ [some (.obj true Cp p (bS (l++[st3 a b c]) tk)),none]=_;generalize (l++[st3 a b c]).dropLast=dl at pp⊢;generalize hL:l++[st3 a b c]=L at *;clear h1 hl hL
    walk_at "run"
   ·rw[if_neg hl];trivial
def Ht:cV Cp (lj Cp (gH Cs)) 2 (jV Cs):=by
 intro p fs ds;unfold jV
 match fs,ds with
 | [],[d]=>
  dsimp only;cases hc:gH Cs [d]with
  |no=>trivial
  |ex E=>
   dsimp only;refine⟨[some (.obj false Cp p []),some (.val d)],?_⟩;show aI _ _ [some (.obj false Cp p []),some (.val d)]=_
   walk_at "run"
  |ok x=>
   dsimp only;have o1:∀r fs,pS Cp (some (.obj true Cp p fs)::r) 0=.ok (p,fs):=λr fs=>iJ rfl;have mk3:∀x y z,mkT [x,y,z]=.ok (.tup [x,y,z]):=λ_ _ _=>rfl;have z1:1<=sizeLine:=by decide
   have z0:0<=sizeLine:=by decide
   have w0:(0:Nat)<900:=by decide
   have w1':(1:Nat)<900:=by decide
   have k0:jm 0 (.own [.tup [.str [109,97,100,101],d,.int 0]]) []=[(0,Fd.own [st3 (.str cF) d 0])]:=rfl;have w1:([(0,Fd.own [st3 (.str cF) d 0])]:List (Nat×Fd)).length<900:=by show 1<900;decide
   have k1:jm 1 (.own []) [(0,Fd.own [st3 (.str cF) d 0])]=bS [st3 (.str cF) d 0] []:=rfl;refine⟨[some (.obj true Cp p (bS [st3 (.str cF) d 0] [])),some (.val d)],rfl,.inr ⟨?_,rfl⟩⟩;show aI _ _ [some (.obj true Cp p []),some (.val d)]=_
   walk_at "run"
 | [],[]=>trivial
 | [],_::_::_=>trivial
 |_::_,_=>trivial
end
noncomputable def ef:Ev->O:=(aI (oIf (gB3 leD ltD (ciz 0) (rvz 1) (gOf eI (aa (g2 ixD (rvz 0) (ciz 1)) nlz))) (aI (cG (g2 ixD (g2 ixD (rvz 0) (ciz 1)) (rvz 1))) oNx) oNx) (aI (cG (g2 hV (csz [32]) (g2 ixD (rvz 0) (ciz 0)))) oNx))
noncomputable def ie(aG aU cW:List D->R D)(dC:Addr):Ev->O:=(aI (ka (aL 1 aG (aa (rvz 0) nlz))) (aI (oIf (gBn (aJ jU (aL 3 aU (aa (rvz 1) (aa (aJ ox (ciz 12)) (aa (ciz 12) nlz)))))) (aI (je dC (aa (csz [97,32,115,99,114,101,101,110,32,105,115,32,115,99,114,111,108,108,101,100,32,98,121,32,45,49,50,32,116,111,32,49,50,32,114,111,119,115]) nlz)) oNx) oNx) (aI (Ck 2 (fy (aJ ca (aa (gOf eI (aa (g2 ixD (rvz 0) (ciz 1)) nlz)) nlz)) [0,1] (λ_=>R.ok true) (aL 2 cW (aa (rvz 1) (aa (g2 dh (rvz 0) (rvz 2)) nlz))))) (EW 2 (aI (cG (aJ mkT (aa (g2 ixD (rvz 0) (ciz 0)) (aa (gOf jL (aa (rvz 2) nlz)) (aa (g2 ixD (rvz 0) (ciz 2)) nlz))))) oNx)))))
noncomputable def iz(ad aE:List D->R D):Ev->O:=(aI (cG (aL 4 aE (aa (rvz 0) (aa (g2 dh (rvz 1) (ciz 5)) (aa (g2 dh (ciz 1) (aL 3 ad (aa (rvz 0) (aa (rvz 1) (aa (ciz 8) nlz))))) (aa (g2 dh (ciz 1) (aL 3 ad (aa (rvz 0) (aa (g2 dh (rvz 1) (ciz 1)) (aa (ciz 4) nlz))))) nlz)))))) oNx)
def Kg(a b c:D):ixD (.tup [a,b,c]) (.int 0)=some a:=rfl
def Dw(a b c:D):ixD (.tup [a,b,c]) (.int 1)=some b:=rfl
def M5(a b c:D):ixD (.tup [a,b,c]) (.int 2)=some c:=rfl
def t3(x y z:D):mkT [x,y,z]=.ok (.tup [x,y,z]):=m_t (by simp)
def tl_(x:List D):jL [.lst false x]=some (.tup x):=rfl
def J3(f:Bool)(x:List D):ce (.lst f x)=.ok x:=rfl
def ng(i:Int):ox (.int i)=.ok (.int (-i)):=rfl
def B3(i lo hi:Int):xJ [.int i,.int lo,.int hi]=.ok (.bl (decide (lo<=i) && decide (i<=hi))):=rfl
def vz(h:screen d=true):rM d=true:=by
 cases d <;> first|(cases h;done)|skip
 rename_i xs
 match xs,h with
 | [],h=>cases h
 | [_],h=>cases h
 | [_,_],h=>cases h
 |a::b::c::e::l,h=>cases h
 | [a,r,p],h=>
  cases a <;> first|(cases h;done)|skip
  rename_i i;cases r <;> first|(simp[screen,xx]at h;done)|skip
  rename_i rows;simp only[screen,Bool.and_eq_true]at h;obtain⟨⟨h1,h2⟩,h3⟩:=h;simp only[xx,Bool.and_eq_true,List.all_eq_true]at h2;simp only[inB,Bool.and_eq_true,decide_eq_true_eq]at h1;simp only[rM,Bool.and_eq_true,List.all_eq_true];refine⟨⟨rfl,λr hr=>?_⟩,?_⟩
  ·have q:=h2.2 r hr;cases r <;> first|rfl|(cases q;done)|skip
   rename_i x;simp only[zJ,Bool.and_eq_true,beq_iff_eq]at q;simp only[Gw,decide_eq_true_eq];have:=cz;omega
  ·cases p <;> first|(cases h3;done)|skip
   rename_i ps
   match ps,h3 with
   | [a,b],h3=>
    simp only[qU,Bool.and_eq_true]at h3;show [a,b].all rT=true;rw[List.all_eq_true];intro x hx;rcases List.mem_cons.1 hx with rfl|hx;·cases x <;> first|rfl|exact absurd h3.1 (by simp[inB])
    ·rcases List.mem_cons.1 hx with rfl|hx;·cases x <;> first|rfl|exact absurd h3.2 (by simp[inB])
     ·cases hx
def gA(h:screen d=true):gH C [d]=.ok .non:=by show(if rM d=true then (if screen d=true then R.ok D.non else .ex C)else .no)=_;rw[if_pos (vz h),if_pos h]
noncomputable def zZ(b m r:Int):Bool:=decide (0<=b) && decide (b<=r - 1) && (decide (1<=m) && decide (m<=r - b))
def Mi{P:Prop}(h:∀wd rows p,d=.tup [.int wd,.tup rows,p]->P)(h2:(∀wd rows p,d≠.tup [.int wd,.tup rows,p])->P):P:=by
 by_cases e:∃wd rows p,d=.tup [.int wd,.tup rows,p];·obtain⟨wd,rows,p,e⟩:=e;exact h wd rows p e
 ·exact h2 λwd rows p q=>e ⟨wd,rows,p,q⟩
noncomputable def H9(l w:Nat):D->D
 |.str x=>.str ((x.drop l).take w)
 |d=>d
noncomputable def KY:List D->R D
 | [.tup [.int wd,.tup rows,p],.int t,.int l,.int h,.int w]=>if screen (.tup [.int wd,.tup rows,p])=true/\zZ t h rows.length=true/\zZ l w wd=true then .ok (.tup [.int w,.tup (((rows.drop t.toNat).take h.toNat).map (H9 l.toNat w.toNat)),.tup [.int 0,.int 0]])else .no
 |_=>.no
def Eb{wd:Int}{rows:List D}{p:D}(h:screen (.tup [.int wd,.tup rows,p])=true):(1<=wd/\wd<=40)/\(1<=rows.length/\rows.length<=12)/\(∀r∈rows,∃x,r=.str x/\plain x=true/\(x.length:Int)=wd)/\qU p wd rows.length=true:=by
 simp only[screen,Bool.and_eq_true]at h;obtain⟨⟨h1,h2⟩,h3⟩:=h;simp only[xx,Bool.and_eq_true,List.all_eq_true,decide_eq_true_eq]at h2;simp only[inB,Bool.and_eq_true,decide_eq_true_eq]at h1;refine⟨h1,h2.1,λr hr=>?_,h3⟩;have q:=h2.2 r hr;cases r <;> first|(cases q;done)|skip
 rename_i x;simp only[zJ,Bool.and_eq_true,beq_iff_eq]at q;exact⟨x,rfl,q.1,q.2⟩
noncomputable def jh(rows:List D)(wd:Nat)(n:Int):D:=if 0<=n/\n<rows.length then rows.getD n.toNat .non else .str (List.replicate wd 32)
noncomputable def Ds:List D->R D
 | [.tup [.int wd,.tup rows,_],.int n]=>if 0<=wd/\wd<=100 then .ok (jh rows wd.toNat n)else .no
 |_=>.no
def nD:∀ds:List D,ds.length=2->Ds ds=.no\/aD (ef (aC 2 ds))=Ds ds:=by
 intro ds hl
 match ds,hl with
 | [d,n],_=>
  refine Mi (d:=d) (λwd rows p e=>?_) λe=>Or.inl ?_
  ·subst e;cases n <;> first|exact Or.inl rfl|skip
   rename_i n hl;by_cases hc:0<=wd/\wd<=100
   ·refine Or.inr ?_;have e2:Ds [.tup [.int wd,.tup rows,p],.int n]=.ok (jh rows wd.toNat n):=if_pos hc;rw[e2];obtain⟨wd,rfl⟩:=Int.eq_ofNat_of_zero_le hc.1;rw[Int.toNat_natCast];show aD (aI _ _ [some (.val (.tup [.int wd,.tup rows,p])),some (.val (.int n))])=_;unfold jh;have x0:=Kg (.int wd) (.tup rows) p;have x1:=Dw (.int wd) (.tup rows) p;have m1:hV (.str [32]) (.int (wd:Int))=some (.str (List.replicate wd 32)):=Hu (by omega);clear hl e2 hc;by_cases h1:0<=n
    ·by_cases h2:n<rows.length
     ·obtain⟨k,rfl⟩:=Int.eq_ofNat_of_zero_le h1;have q1:decide ((0:Int)<=(k:Int))=true:=by simp
      have q2:decide ((k:Int)<(rows.length:Int))=true:=by simp;omega
      have x2:ixD (.tup rows) (.int (k:Int))=some (rows.getD k .non):=Ma (by rw[List.getD_eq_getElem?_getD,List.getElem?_eq_getElem (by omega)];rfl);rw[if_pos ⟨h1,h2⟩,Int.toNat_natCast];clear h1 h2
      walk_at "run"
     ·have q1:decide ((0:Int)<=n)=true:=by simp[h1]
      have q2:decide (n<(rows.length:Int))=false:=by simp;omega
      rw[if_neg (by omega)];clear h1 h2
      walk_at "run"
    ·have q1:decide ((0:Int)<=n)=false:=by simp;omega
     rw[if_neg (by omega)];clear h1
     walk_at "run"
   ·exact Or.inl (if_neg hc)
  ·unfold Ds;split;·rename_i q;cases q;exact absurd rfl (e _ _ _)
   ·rfl
noncomputable def dH(rows:List D)(wd:Nat)(by_:Int):List D:=(List.range rows.length).map λ(k:Nat)=>jh rows wd ((k:Int)+by_)
noncomputable def bQ:List D->R D
 | [.tup [.int wd,.tup rows,p],.int b]=>if screen (.tup [.int wd,.tup rows,p])=true/\-12<=b/\b<=12 then .ok (.tup [.int wd,.tup (dH rows wd.toNat b),p])else .no
 |_=>.no
def uV{C1 C2:Addr}:∀ds:List D,ds.length=2->bQ ds=.no\/aD (ie (gH C1) xJ Ds C2 (aC 3 ds))=bQ ds:=by
 intro ds hl
 match ds,hl with
 | [d,n],_=>
  refine Mi (d:=d) (λwd rows p e=>?_) λe=>Or.inl ?_
  ·subst e;cases n <;> first|exact Or.inl rfl|skip
   rename_i b hl;by_cases hc:screen (.tup [.int wd,.tup rows,p])=true/\-12<=b/\b<=12
   ·refine Or.inr ?_;have e2:bQ [.tup [.int wd,.tup rows,p],.int b]=.ok (.tup [.int wd,.tup (dH rows wd.toNat b),p]):=if_pos hc;rw[e2];obtain⟨hs,h1⟩:=hc;have c1:=gA (C:=C1) hs;obtain⟨⟨w1,w2⟩,⟨n1,n2⟩,hr,_⟩:=Eb hs;obtain⟨wd,rfl⟩:=Int.eq_ofNat_of_zero_le (a:=wd) (by omega);rw[Int.toNat_natCast];have c2:xJ [.int b,.int (-12),.int 12]=.ok (.bl true):=by rw[B3];simp;omega
    have e:fB (λ_=>R.ok true) (aL 2 Ds (aa (rvz 1) (aa (g2 dh (rvz 0) (rvz 2)) nlz))) ((List.range rows.length).map λ(i:Nat)=>D.int (i:Int)) [none,some (.val (.tup [.int wd,.tup rows,p])),some (.val (.int b))]
      = .ok (((List.range rows.length).map λ(i:Nat)=>D.int (i:Int)).map λd=>match d with|.int k=>jh rows wd (k+b)|d=>d):=by
     refine iR _ _ _ none λd hd=>⟨rfl,?_⟩
     obtain⟨k,_,rfl⟩:=List.mem_map.1 hd;have r1:Ds [.tup [.int wd,.tup rows,p],.int ((k:Int)+b)]=.ok (jh rows wd ((k:Int)+b)):=by have:Ds [.tup [.int wd,.tup rows,p],.int ((k:Int)+b)]=.ok (jh rows (wd:Int).toNat ((k:Int)+b)):=if_pos (by omega);rw[this,Int.toNat_natCast]
     clear hd c1 c2 hr hs e2
     walk_at "run"
    have z1:(((List.range rows.length).map λ(i:Nat)=>D.int (i:Int)).map λd=>match d with|.int k=>jh rows wd (k+b)|d=>d)=dH rows wd b:=by rw[List.map_map];unfold dH;refine List.map_congr_left λk _=>?_;rfl
    rw[z1]at e;show aD (aI _ _ [some (.val (.tup [.int wd,.tup rows,p])),some (.val (.int b)),none])=_;have x0:=Kg (.int wd) (.tup rows) p;have x1:=Dw (.int wd) (.tup rows) p;have x2:=M5 (.int wd) (.tup rows) p;have r1:ca [.int (rows.length:Int)]=.ok ((List.range rows.length).map λ(i:Nat)=>D.int (i:Int)):=pN (by omega);have i2:gR [0,1] [some (.val (.tup [.int wd,.tup rows,p])),some (.val (.int b)),none]=[none,some (.val (.tup [.int wd,.tup rows,p])),some (.val (.int b))]:=rfl;have z:(dH rows wd b).length<=sizeLine:=by have:=cz;unfold dH;simp;omega
    have k3:=tl_ (dH rows wd b);have f2:∀(a0 a1:Option Sl)(ds:List D),frz 2 [a0,a1,some (.own ds)]=[a0,a1,some (.val (.lst false ds))]:=λ_ _ _=>rfl;have m3:=t3;have g1:=ng 12;clear hl e2 hs h1 w1 w2 n1 n2 hr z1
    walk_at "run"
   ·exact Or.inl (if_neg hc)
  ·unfold bQ;split;·rename_i q;cases q;exact absurd rfl (e _ _ _)
   ·rfl
noncomputable def wS(ns:List Int)(a:Nat):Nat:=(1+ib ns a 8).toNat
noncomputable def mS(ns:List Int)(a:Nat):Nat:=(1+ib ns (a+1) 4).toNat
def pR(ns:List Int)(a:Nat):1<=wS ns a/\wS ns a<=8/\(1:Int)+ib ns a 8=(wS ns a:Int):=by have h:=cU ns a (m:=8) (by decide);unfold wS;omega
def qe(ns:List Int)(a:Nat):1<=mS ns a/\mS ns a<=4/\(1:Int)+ib ns (a+1) 4=(mS ns a:Int):=by have h:=cU ns (a+1) (m:=4) (by decide);unfold mS;omega
noncomputable def pl(ns:List Int)(a:Nat)(wd m:Nat):D:=.tup [.int (ib ns (a+400) m),.int (ib ns (a+401) (wd+1))]
noncomputable def scS(ns:List Int)(a:Nat):D:=.tup [.int (wS ns a:Int),.tup (uS ns (a+5) (wS ns a) (mS ns a)),pl ns (a+5) (wS ns a) (mS ns a)]
noncomputable def lw:List D->R D:=λds=>aD (iz eS B1 (aC 2 ds))
def yp{ns:List Int}{a:Nat}:lw [.lst fz (ns.map .int),.int (a:Int)]=.ok (scS ns a):=by
 show aD (aI _ _ [some (.val (.lst fz (ns.map .int))),some (.val (.int a))])=_;have p1:eS [.lst fz (ns.map .int),.int (a:Int),.int 8]=.ok (.int (ib ns a 8)):=dS (by decide);have p2:eS [.lst fz (ns.map .int),.int ((a:Int)+1),.int 4]=.ok (.int (ib ns (a+1) 4)):=dS (n:=a+1) (by decide);obtain⟨w1,w2,w3⟩:=pR ns a;obtain⟨m1,m2,m3⟩:=qe ns a;have s1:B1 [.lst fz (ns.map .int),.int ((a:Int)+5),.int (wS ns a:Int),.int (mS ns a:Int)]=.ok (scS ns a):=As (a:=a+5) (by omega) (by omega) (by omega);clear w1 w2 m1 m2
 walk_at "run"
noncomputable abbrev St:=Nat×List (List Nat)×Nat×Nat
noncomputable def sD(s:St):D:=scr s.1 s.2.1 s.2.2.1 s.2.2.2
structure GS(s:St):Prop where
 w1:1<=s.1
 w2:s.1<=40
 m:s.2.1.length<=12
 r:s.2.2.1<s.2.1.length
 c:s.2.2.2<=s.1
 l:∀x∈s.2.1,x.length=s.1/\plain x=true
def GS.screen{s:St}(h:GS s):screen (sD s)=true:=by
 obtain⟨wd,rows,r,c⟩:=s;have h1:=h.w1;have h2:=h.w2;have h3:=h.m;have h4:=h.r;have h5:=h.c;have h6:=h.l;dsimp only at h1 h2 h3 h4 h5 h6;have hf:xx (.tup (rows.map .str)) (wd:Int)=true:=by simp only[xx,List.length_map,Bool.and_eq_true,decide_eq_true_eq,List.all_eq_true];refine⟨⟨by omega,by omega⟩,λd hd=>?_⟩;obtain⟨x,hx,rfl⟩:=List.mem_map.1 hd;obtain⟨q1,q2⟩:=h6 x hx;simp[zJ,q1,q2]
 simp only[sD,scr,Q.screen,hf,qU,inB,List.length_map,Bool.and_eq_true,decide_eq_true_eq];refine⟨⟨⟨by omega,by omega⟩,trivial⟩,?_⟩;omega
def IA(s:St):cl 10 (sD s)=true:=by
 have:(s.2.1.map D.str).all (cl 8)=true:=by rw[List.all_eq_true];intro d hd;obtain⟨x,_,rfl⟩:=List.mem_map.1 hd;rfl
 simp only[sD,scr,cl,List.all_cons,List.all_nil,this,Bool.and_true,Bool.and_self]
def oJ{x y:List Nat}(h1:plain x=true)(h2:plain y=true):plain (x++y)=true:=by simp only[plain,List.all_append,Bool.and_eq_true]at *;exact⟨h1,h2⟩
def qE{rows:List (List Nat)}{r:Nat}(h:r<rows.length):rows.getD r []∈rows:=by rw[List.getD_eq_getElem?_getD,List.getElem?_eq_getElem h];exact List.getElem_mem h
def IJ(ns:List Int)(a:Nat):∃s:St,GS s/\scS ns a=sD s/\s.1=wS ns a/\s.2.1.length=mS ns a:=by
 obtain⟨w1,w2,_⟩:=pR ns a;obtain⟨m1,m2,_⟩:=qe ns a;have p1:=cU ns (a+5+400) (m:=(mS ns a:Int)) (by omega);have p2:=cU ns (a+5+401) (m:=(wS ns a:Int)+1) (by omega);refine⟨(wS ns a,(List.range (mS ns a)).map (λk=>AY ns (a+5+30 * k) (wS ns a)),(ib ns (a+5+400) (mS ns a)).toNat,(ib ns (a+5+401) (wS ns a+1)).toNat),⟨w1,by show wS ns a<=40;omega,by simp;omega,by simp;omega,by show(ib ns (a+5+401) (wS ns a+1)).toNat<=wS ns a;omega,λx hx=>?_⟩,?_,rfl,by simp⟩;·obtain⟨k,_,rfl⟩:=List.mem_map.1 hx;exact⟨tK ns _ _,wU ns _ _⟩
 ·show D.tup _=D.tup _;have e1:((ib ns (a+5+400) (mS ns a)).toNat:Int)=ib ns (a+5+400) (mS ns a):=by omega
  have e2:((ib ns (a+5+401) (wS ns a+1)).toNat:Int)=ib ns (a+5+401) (wS ns a+1):=by omega
  unfold pl uS;dsimp only;rw[e1,e2,List.map_map];rfl
noncomputable def M8(os:List Od):Int:=((os.map dm).sum:Nat)
def jI{l tk:List D}{a:D}{s:St}{c:Int}:dQ (bS (l++[st3 a (sD s) c]) tk) []=.rd (sD s):=eV _ l tk a (sD s) c []
def lL{l tk:List D}{a:D}{s:St}{c:Int}:ff (bS (l++[st3 a (sD s) c]) tk) []=.rd (.int c):=eV _ l tk a (sD s) c []
def FM{Cs:Addr}{s:St}(h:GS s):A5 (jV Cs) 1 [sD s]=.ok (bS [st3 (.str cF) (sD s) 0] []):=by have e:gH Cs [sD s]=.ok .non:=gA h.screen;unfold A5 jV;rw[if_pos (show [sD s].length=1 from rfl)];dsimp only;rw[e]
def Gg{Cb:Addr}{l tk:List D}{a b:D}{c:Int}(h:0<l.length)(hk:tk.length<1000):jW Cb (bS (l++[st3 a b c]) tk) []=.ok a (bS l (tk++[st3 a b c])):=by unfold jW;rw[eV];dsimp only;rw[if_neg (by simp;intro z;rw[z]at h;simp at h),if_pos hk,List.dropLast_concat]
noncomputable def jg(aB:Addr):Ev->O:=(aI (cG (aJ mkT (aa (g2 qO (mz aB 0 0) (ciz 1)) (aa (mz aB 0 1) nlz)))) oNx)
section
variable{Cb Cp:Addr}
noncomputable def fb:MF:=λfs ds=>match EJ fs,ds with
 |some (sts,tk),[]=>.rd (.tup [.int ((sts.length:Int) - 1),.int (tk.length:Int)])
 |_,_=>.no
def Be:cV Cp (jg Cp) 1 fb:=by
 intro p fs ds;unfold fb;cases q:EJ fs with
 |none=>trivial
 |some z=>
  obtain⟨sts,tk⟩:=z;have e:=zi q;subst e;cases ds with
  |cons _ _=>trivial
  |nil=>
   dsimp only;have f0:=fl0 sts tk;have f1:=fl1 sts tk;have o0:∀m r,oH Cp (some (.obj m Cp p (bS sts tk))::r) 0=.ok (bS sts tk):=λm r=>gW rfl;have mk2:∀x y,mkT [x,y]=.ok (.tup [x,y]):=λ_ _=>rfl;show aI _ _ [some (.obj false Cp p (bS sts tk))]=_;clear q
   walk_at "run"
end
noncomputable def jj(aB:Addr)(bT am:MF)(ah:List D->R D):Ev->O:=(aI (rh aB 0 3 bT (aa (csz [115,99,114,111,108,108]) (aa (aL 2 ah (aa (bZ aB 0 am) (aa (rvz 1) nlz))) (aa (ciz 0) nlz)))) oNx)
noncomputable def bi:List Nat:=[115,99,114,111,108,108]
section
variable{Cs Co Cr Cp:Addr}
noncomputable def eB:MF:=zm λsts _ _ b c ds=>match ds with
 | [d]=>(match bQ [b,d]with
  |.ok b'=>if sts.length<1000 then .ok .non (bS (sts++[st3 (.str bi) b' (c+0)]) [])else .no
  |.ex E=>.no
  |.no=>.no)
 |_=>.no
def Db:cV Cp (jj Cp Ag dQ bQ) 2 eB:=by
 refine kQ λp l tk a b c ds=>?_
 match ds with
 | []=>trivial
 |_::_::_=>simp
 | [d]=>
  dsimp only;cases hd:bQ [b,d]with
  |no=>trivial
  |ex E=>trivial
  |ok b'=>
   dsimp only;by_cases hl:(l++[st3 a b c]).length<1000
   ·rw[if_pos hl];dsimp only;have s2:dQ (bS (l++[st3 a b c]) tk) []=.rd b:=eV _ l tk a b c [];have s3:Ag (bS (l++[st3 a b c]) tk) [.str bi,b',.int 0]=.ok .non (bS (l++[st3 a b c]++[st3 (.str bi) b' (c+0)]) []):=(eV _ l tk a b c _).trans (if_pos hl);have o0:∀m r,oH Cp (some (.obj m Cp p (bS (l++[st3 a b c]) tk))::r) 0=.ok (bS (l++[st3 a b c]) tk):=λm r=>gW rfl;have o1:∀r fs,pS Cp (some (.obj true Cp p fs)::r) 0=.ok (p,fs):=λr fs=>iJ rfl;have wd:D.str [115,99,114,111,108,108]=.str bi:=rfl;refine⟨[some (.obj true Cp p (bS (l++[st3 a b c]++[st3 (.str bi) b' (c+0)]) [])),some (.val d)],rfl,.inr ⟨?_,rfl⟩⟩;show aI _ _ [some (.obj true Cp p (bS (l++[st3 a b c]) tk)),some (.val d)]=_;clear hl
    walk_at "run"
   ·rw[if_neg hl];trivial
noncomputable def stS(s:St)(z:Int):St:=(s.1,(List.range s.2.1.length).map (λ(k:Nat)=>if 0<=(k:Int)+z/\(k:Int)+z<(s.2.1.length:Int)then s.2.1.getD ((k:Int)+z).toNat []else List.replicate s.1 32),s.2.2.1,s.2.2.2)
def BF(s:St)(z:Int):dH (s.2.1.map .str) s.1 z=(stS s z).2.1.map .str:=by
 unfold dH stS jh;rw[List.length_map,List.map_map];refine List.map_congr_left λk hk=>?_;show(if _ then _ else _:D)=D.str (if _ then _ else _);by_cases h:0<=(k:Int)+z/\(k:Int)+z<(s.2.1.length:Int)
 ·rw[if_pos h,if_pos h];have hn:((k:Int)+z).toNat<s.2.1.length:=by omega
  rw[List.getD_eq_getElem?_getD,List.getD_eq_getElem?_getD,List.getElem?_map,List.getElem?_eq_getElem hn];rfl
 ·rw[if_neg h,if_neg h]
def wH{s:St}(h:GS s)(z:Int):GS (stS s z):=by
 refine⟨h.w1,h.w2,by simp only[stS,List.length_map,List.length_range];exact h.m,by simp only[stS,List.length_map,List.length_range];exact h.r,h.c,λx hx=>?_⟩;simp only[stS]at hx⊢;obtain⟨k,hk,rfl⟩:=List.mem_map.1 hx;by_cases q:0<=(k:Int)+z/\(k:Int)+z<(s.2.1.length:Int);·rw[if_pos q];exact h.l _ (qE (by omega))
 ·rw[if_neg q];exact⟨by simp,by simp[plain]⟩
def nL{s:St}(h:GS s){z:Int}(h1 : -12<=z)(h2:z<=12):bQ [sD s,.int z]=.ok (sD (stS s z)):=by have hs:=h.screen;show(if screen (sD s)=true/\-12<=z/\z<=12 then R.ok (D.tup [.int (s.1:Int),.tup (dH (s.2.1.map .str) (s.1:Int).toNat z),_])else .no)=_;rw[if_pos ⟨hs,h1,h2⟩,Int.toNat_natCast,BF];rfl
inductive Dd where
 |scroll (z:Int)
 |ord (o:Od)
end
section
variable{Cs Co Cr:Addr}
def vJ{n:Nat}{fs:List (Nat×Fd)}(ho:ρ[i]?=some (some (.obj true C p fs)))(ha:gl ρ=.ok ds)(hl:ds.length=n)(hF:F fs ds=.ok d fs'):iZ C i n F gl ρ=.re d (ρ.set i (some (.obj true C p fs'))):=by unfold iZ JO;rw[ho];dsimp only;rw[if_pos rfl,R.ok_out,ha,R.ok_out];dsimp only;rw[if_pos hl,hF];rfl
end
noncomputable def iG(aG bC:List D->R D):Ev->O:=(aI (ka (aL 1 aG (aa (rvz 0) nlz))) (aI (oIf (nV (gBn (aJ jU (aJ (km (·=="list")) (rvz 1)))) (gB2 gtD (gOf eI (aa (rvz 1) nlz)) (gOf eI (aa (g2 ixD (rvz 0) (ciz 1)) nlz)))) (aI (cG (λ_=>R.ok (D.bl false))) oNx) oNx) (aI (cG (gOf CH (aa (ck (fy (aJ ce (rvz 1)) [0] (λ_=>R.ok true) (oq (aL 1 bC (aa (rvz 0) nlz)) (g2 leD (gOf eI (aa (rvz 0) nlz)) (g2 ixD (rvz 1) (ciz 0)))))) nlz))) oNx)))
noncomputable def txt(m:Nat)(x:List Nat):Bool:=plain x && decide (x.length<=m)
def sA{x:List Nat}(h:x.length<=1000):lx [.str x]=.ok (.bl (plain x)):=if_pos (Nat.le_trans h cz)
def Hb(f:Bool)(ds:List D):CH [.lst f (ds.map λ_=>D.bl true)]=some (.bl true):=by have:=lQ (λ_=>true) f ds;rw[this];simp
def Lj{x y:List D}(h:x.length+y.length<=sizeLine):dh (.lst false x) (.lst false y)=some (.lst false (x++y)):=by simp only[dh];rw[if_pos h]
noncomputable def cZ(n wd:Nat)(xs:List (List Nat)):Bool:=decide (xs.length<=n) && xs.all (txt wd)
noncomputable def dP(gJ:List D->R D)(aF:Addr):Ev->O:=(aI (oIf (gBn (aJ jU (aL 2 gJ (aa (rvz 0) (aa (rvz 1) nlz))))) (aI (je aF (aa (csz [116,104,101,115,101,32,97,114,101,32,110,111,32,114,111,119,115,32,116,104,97,116,32,116,104,101,32,115,99,114,101,101,110,32,99,97,110,32,115,104,111,119]) nlz)) oNx) oNx) oNx)
noncomputable def gN:Ev->O:=(aI (eY 2 (g2 ixD (rvz 0) (ciz 0))) (aI (eY 3 (g2 qO (gOf eI (aa (g2 ixD (rvz 0) (ciz 1)) nlz)) (gOf eI (aa (rvz 1) nlz)))) (aI (cG (g2 dh (ck (fy (aJ ce (rvz 1)) [2] (λ_=>R.ok true) (im "str" mj (rvz 0) (aa (rvz 1) nlz)))) (g2 hV (ck (xv (aa (g2 hV (csz [32]) (rvz 2)) nlz))) (rvz 3)))) oNx)))
noncomputable def Dm(wd:Nat)(x:List Nat):List Nat:=x++List.replicate (wd - x.length) 32
def xN(n c:Nat)(h:(decide (32<=c) && decide (c<=126))=true):plain (List.replicate n c)=true:=by simp only[plain,List.all_eq_true];intro x hx;rw[(List.mem_replicate.1 hx).2];exact h
def xQ(g:Nat->Bool)(l:List Nat):l.take (l.length - (l.reverse.takeWhile g).length)=(l.reverse.dropWhile g).reverse:=by
 have e:l.reverse=l.reverse.takeWhile g++l.reverse.dropWhile g:=List.takeWhile_append_dropWhile.symm;generalize l.reverse.takeWhile g=a at *;generalize l.reverse.dropWhile g=b at *;have e2:l=b.reverse++a.reverse:=by rw[<- List.reverse_append,<- e,List.reverse_reverse]
 subst e2;rw[List.take_left' (by simp)]
def xD(g:Nat->Bool)(X:PySem.Str):(PySem.Txt.stripBy g false true X).cps.toList=(X.cps.toList.reverse.dropWhile g).reverse:=by
 rw[<- xQ];have hl:X.length=X.cps.toList.length:=by simp[PySem.Str.length]
 have h0:PySem.stripLo g false X=0:=rfl;have h1:PySem.stripHi g true X 0=X.cps.toList.length - (X.cps.toList.reverse.takeWhile g).length:=by rw[<- hl];rfl
 unfold PySem.Txt.stripBy;split;·rename_i hs;unfold PySem.stripSame at hs;rw[h0,h1,Bool.and_eq_true,beq_iff_eq,beq_iff_eq,hl]at hs;rw[hs.2,List.take_length]
 ·unfold PySem.stripped;rw[h0,h1];show(X.cps.extract 0 _).toList=_;rw[Array.toList_extract];simp[List.extract_eq_take_drop]
def kH(x:List Nat)(c:Nat):dB x [c]=(x.reverse.dropWhile λd=>[c].contains d).reverse:=by
 show(PySem.Txt.stripBy _ false true _).cps.toList=_;rw[xD];have e:(λd=>#[c].contains d)=λd=>[c].contains d:=by funext d;simp
 show(x.toArray.toList.reverse.dropWhile λd=>#[c].contains d).reverse=_;rw[e]
def zN{x:List Nat}{m:Nat}(h:plain x=true)(hl:x.length<=m):plain (dB x [32])=true/\(dB x [32]).length<=m:=by
 rw[kH];have hs:(x.reverse.dropWhile λd=>[32].contains d).Sublist x.reverse:=List.dropWhile_sublist _;refine⟨?_,?_⟩;·simp only[plain,List.all_eq_true,List.mem_reverse]at h⊢;intro c hc;exact h c (List.mem_reverse.1 (hs.subset hc))
 ·have:=hs.length_le;simp at this⊢;omega
noncomputable abbrev vL(f:Bool)(n:List Int):Option Sl:=some (.val (.lst f (n.map .int)))
noncomputable abbrev vI(n:Nat):Option Sl:=some (.val (.int (n:Int)))
noncomputable abbrev vD(d:D):Option Sl:=some (.val d)
noncomputable abbrev vS(x:List Nat):Option Sl:=some (.val (.str x))
noncomputable abbrev vO(c p:Addr)(f:List (Nat×Fd)):Option Sl:=some (.obj true c p f)
noncomputable def Ls:List D->R D:=λds=>aD (kB lx (aC 1 ds))
noncomputable def goG:List D->R D:=λds=>aD (nP xJ (aC 1 ds))
noncomputable def Ln:List D->R D:=λds=>aD (iE Ls goG (aC 1 ds))
noncomputable def ckG(C:Addr):List D->R D:=λds=>aD (fg Ln C (aC 1 ds))
noncomputable def JE(C:Addr):List D->R D:=λds=>aD (eD (ckG C) C (aC 2 ds))
noncomputable def isS:Od->Bool
 |.say _=>true
 |_=>false
noncomputable def isG:Od->Bool
 |.go _ _=>true
 |_=>false
def Lz{o:Od}(h:okO o=true):Ls [oD o]=.ok (.bl (isS o)):=by
 cases o with
 |say x=>
  simp only[okO,Bool.and_eq_true,decide_eq_true_eq]at h;have i1:lx [.str x]=.ok (.bl true):=by rw[sA (by omega),h.1]
  have d1:decide ((1:Int)<=(x.length:Int))=true:=by rw[decide_eq_true_eq];omega
  have d2:decide ((x.length:Int)<=40)=true:=by rw[decide_eq_true_eq];omega
  have e1:eI [oD (.say x)]=some (.int 2):=rfl;have e2:ixD (oD (.say x)) (.int 0)=some (.str [115,97,121]):=rfl;have e3:ixD (oD (.say x)) (.int 1)=some (.str x):=rfl;have q0:eqF (.str [115,97,121]) (.str [115,97,121])=some (.bl true):=rfl;have q1:eqF (.int 2) (.int 2)=some (.bl true):=rfl;show aD (aI _ _ [vD (oD (.say x))])=.ok (.bl true);clear h;generalize oD (.say x)=u at *
  walk_at "run"
 |go r c=>rfl
 |wipe=>rfl
def M4{o:Od}(h:okO o=true):goG [oD o]=.ok (.bl (isG o)):=by
 cases o with
 |go r c=>
  simp only[okO,Bool.and_eq_true,decide_eq_true_eq]at h;have i1:xJ [.int (r:Int),.int 0,.int 11]=.ok (.bl true):=by show R.ok (D.bl (decide (0<=(r:Int)) && decide ((r:Int)<=11)))=_;rw[decide_eq_true (by omega),decide_eq_true (by omega)];rfl
  have i2:xJ [.int (c:Int),.int 0,.int 40]=.ok (.bl true):=by show R.ok (D.bl (decide (0<=(c:Int)) && decide ((c:Int)<=40)))=_;rw[decide_eq_true (by omega),decide_eq_true (by omega)];rfl
  have e1:eI [oD (.go r c)]=some (.int 3):=rfl;have e2:ixD (oD (.go r c)) (.int 0)=some (.str [103,111]):=rfl;have e3:ixD (oD (.go r c)) (.int 1)=some (.int (r:Int)):=rfl;have e4:ixD (oD (.go r c)) (.int 2)=some (.int (c:Int)):=rfl;have q0:neF (.str [103,111]) (.str [103,111])=some (.bl false):=rfl;have q1:neF (.int 3) (.int 3)=some (.bl false):=rfl;have q2:qO (.int 12) (.int 1)=some (.int 11):=rfl;show aD (aI _ _ [vD (oD (.go r c))])=.ok (.bl true);clear h;generalize oD (.go r c)=u at *
  walk_at "run"
 |say x=>rfl
 |wipe=>rfl
def Kq{o:Od}(h:okO o=true):Ln [oD o]=.ok (.bl true):=by
 have h1:=Lz h;have h2:=M4 h;have e1:km (·=="tuple") (oD o)=.ok (.bl true):=by cases o <;> rfl
 have e2:mkT [.str [119,105,112,101]]=.ok (oD .wipe):=rfl;have e3:eqF (oD .wipe) (oD .wipe)=some (.bl true):=rfl;show aD (aI _ _ [vD (oD o)])=_;clear h;cases o with
 |say x=>change _=R.ok (D.bl true)at h1;generalize oD (.say x)=u at *;walk_at "run"
 |go r c=>change _=R.ok (D.bl false)at h1;change _=R.ok (D.bl true)at h2;generalize oD (.go r c)=u at *;walk_at "run"
 |wipe=>change _=R.ok (D.bl false)at h1;change _=R.ok (D.bl false)at h2;generalize oD .wipe=u at *;walk_at "run"
def Na{o:Od}(h:okO o=true):ckG C [oD o]=.ok .non:=by
 have h1:=Kq h;show aD (aI _ _ [vD (oD o)])=_;generalize oD o=u at *
 walk_at "run"
def Gx{f:Bool}{os:List Od}(h:∀o∈os,okO o=true):JE C [.lst f (os.map oD)]=.ok .non:=by
 have lp:∀(os:List Od)(x1:Option Sl),(∀o∈os,okO o=true)->∃y1,eG (lI 1) (fh (ckG C) C) (os.map oD) [vD (.lst f (os.map oD)),x1]=.nx [vD (.lst f (os.map oD)),y1]:=λos=>by
  generalize vD (.lst f (os.map oD))=x0;induction os with
  |nil=>exact λx1 _=>⟨x1,rfl⟩
  |cons o os ih=>
   intro x1 h;obtain⟨y1,e⟩:=ih (vD (oD o)) λo ho=>h o (List.mem_cons_of_mem _ ho);refine⟨y1,(ij (ρ2:=[x0,vD (oD o)]) rfl ?_).trans e⟩;have h1:=Na (C:=C) (h o (List.mem_cons_self ..));unfold fh;generalize oD o=u at *;clear h ih e
   walk_at "run"
 obtain⟨y1,e⟩:=lp os none h;have e1:km (·=="list") (.lst f (os.map oD))=.ok (.bl true):=rfl;have e2:ce (.lst f (os.map oD))=.ok (os.map oD):=rfl;show aD (aI _ _ [vD (.lst f (os.map oD)),none])=_;clear h lp
 walk_at "run"
noncomputable def ocG:List D->R D:=λds=>aD (fQ (aC 1 ds))
def L4(o:Od):ocG [oD o]=.ok (.int (dm o:Int)):=by cases o <;> rfl
noncomputable def coG(C:Addr):List D->R D:=λds=>aD (pP (JE C) ocG (aC 1 ds))
def vP{α:Type}{ge:Ev->R D}(f g:α->D)(tl:Ev):∀(xs:List α)(a:Option Sl),(∀x∈xs,ge (vD (f x)::tl)=.ok (g x))->fB (λ_=>R.ok true) ge (xs.map f) (a::tl)=.ok (xs.map g)
 | [],_,_=>rfl
 |x::xs,a,h=>by have ih:=vP (ge:=ge) f g tl xs (vD (f x)) λy hy=>h y (List.mem_cons_of_mem _ hy);have h1:=h x (List.mem_cons_self ..);unfold fB at ih⊢;rw[List.map_cons,List.map_cons,eA];show(fw (ge (vD (f x)::tl))>>=λz=>eA (lI 0) (λ_=>R.ok true) ge (xs.map f) (vD (f x)::tl)>>=λzs=>R.ok (z::zs))=_;rw[h1,ih];rfl
def LO:∀os:List Od,Go [.lst false (os.map λo=>D.int (dm o:Int))]=some (.int ((os.map dm).sum:Nat)):=λos=>by
 have key:qd (os.map λo=>D.int (dm o:Int))=some (os.map λo=>(dm o:Int)):=by
  induction os with
  |nil=>rfl
  |cons o l ih=>rw[List.map_cons,qd,ih];rfl
 have key2:(os.map λo=>(dm o:Int)).sum=((os.map dm).sum:Nat):=by
  clear key;induction os with
  |nil=>rfl
  |cons o l ih=>rw[List.map_cons,List.sum_cons,ih,List.map_cons,List.sum_cons,Int.natCast_add]
 simp only[Go,key,key2]
def MA{f:Bool}{os:List Od}(h:∀o∈os,okO o=true)(hl:os.length<=1000):coG C [.lst f (os.map oD)]=.ok (.int ((os.map dm).sum:Nat)):=by
 have h1:=Gx (C:=C) (f:=f) h;have c1:=vP (ge:=aL 1 ocG (aa (rvz 0) nlz)) oD (λo=>.int (dm o:Int)) [] os none (λo _=>by rw[ym,show ∀i ρ,rvz i ρ=rdV ρ i from λ_ _=>rfl,rd0,R.ok_bind,L4]);have e2:ce (.lst f (os.map oD))=.ok (os.map oD):=rfl;have z:(os.map λo=>D.int (dm o:Int)).length<=sizeLine:=by have:=cz;rw[List.length_map];omega
 have sm:=LO os;have i0:∀x:Option Sl,gR [] [x]=[none]:=λ_=>rfl;show aD (aI _ _ [vD (.lst f (os.map oD))])=_;clear h hl
 walk_at "run"
noncomputable def jnG:List D->R D:=λds=>aD (dq (aC 3 ds))
def ND{o p:Od}(hn:qN o+qN p<=1000):jnG [oD o,oD p]=.ok (jD (jA o p)):=by
 cases o with
 |say x=>
  cases p with
  |say y=>
   simp only[qN]at hn;have a1:dh (.str x) (.str y)=some (.str (x++y)):=HQ (by have:=cz;omega);have x0:∀z:List Nat,ixD (oD (.say z)) (.int 0)=some (.str [115,97,121]):=λ_=>rfl;have x1:∀z:List Nat,ixD (oD (.say z)) (.int 1)=some (.str z):=λ_=>rfl;have q0:neF (.str [115,97,121]) (.str [115,97,121])=some (.bl false):=rfl;have m2:∀v:List Nat,mkT [.str [115,97,121],.str v]=.ok (oD (.say v)):=λ_=>rfl;have ej:jA (.say x) (.say y)=if x.length+y.length<=40 then some (.say (x++y))else none:=rfl;show aD (aI _ _ [vD (oD (.say x)),vD (oD (.say y)),none])=_;rw[ej];by_cases h:x.length+y.length<=40
   ·have d1:decide (((x++y).length:Int)<=40)=true:=by rw[decide_eq_true_eq,List.length_append];omega
    have e9:jD (if x.length+y.length<=40 then some (.say (x++y))else none)=oD (.say (x++y)):=by rw[if_pos h];rfl
    rw[e9];clear hn h ej e9
    walk_at "run"
   ·have d1:decide (((x++y).length:Int)<=40)=false:=by rw[decide_eq_false_iff_not,List.length_append];omega
    have e9:jD (if x.length+y.length<=40 then some (.say (x++y))else none)=.non:=by rw[if_neg h];rfl
    rw[e9];clear hn h ej e9
    walk_at "run"
  |go r c=>rfl
  |wipe=>rfl
 |go r c=>cases p <;> rfl
 |wipe=>cases p <;> rfl
def Cc{l o j:Od}(h:jA l o=some j)(h1:okO l=true)(h2:okO o=true):okO j=true:=by
 cases l <;> cases o <;> first|(simp[jA]at h;done)|skip
 ·simp only[jA]at h;split at h;·cases h;simp only[okO,Bool.and_eq_true,decide_eq_true_eq]at *;exact⟨oJ h1.1 h2.1,by simp;omega,by simp;omega⟩
  ·cases h
 ·simp only[jA,Option.some.injEq]at h;subst h;exact h2
 ·simp only[jA,Option.some.injEq]at h;subst h;exact h2
def wq{acc:List Od}{o:Od}(h1:∀p∈acc,okO p=true)(h2:okO o=true):∀p∈fZ acc o,okO p=true:=by
 rcases E9 acc with rfl|⟨a,l,rfl⟩;·intro p hp;rw[tu]at hp;rw[List.mem_singleton.1 hp];exact h2
 ·cases hj:jA l o with
  |none=>
   intro p hp;rw[nB hj]at hp;rcases List.mem_append.1 hp with hp|hp;·exact h1 p hp
   ·rw[List.mem_singleton.1 hp];exact h2
  |some j=>
   intro p hp;rw[kA hj]at hp;rcases List.mem_append.1 hp with hp|hp;·exact h1 p (List.mem_append_left _ hp)
   ·rw[List.mem_singleton.1 hp];exact Cc hj (h1 l (by simp)) h2
def wc:∀(os acc:List Od),(∀p∈acc,okO p=true)->(∀p∈os,okO p=true)->∀p∈os.foldl fZ acc,okO p=true
 | [],acc,h,_=>h
 |o::os,acc,h1,h2=>wc os (fZ acc o) (wq h1 (h2 o (List.mem_cons_self ..))) λp hp=>h2 p (List.mem_cons_of_mem _ hp)
def sL:∀(os acc:List Od),(os.foldl fZ acc).length<=acc.length+os.length/\((os.foldl fZ acc).map dm).sum<=(acc.map dm).sum+(os.map dm).sum
 | [],acc=>by simp
 |o::os,acc=>by obtain⟨_,a2,a3⟩:=wf acc o;obtain⟨b2,b3⟩:=sL os (fZ acc o);simp only[List.foldl_cons,List.length_cons,List.map_cons,List.sum_cons];omega
def Kj{os:List Od}(h:∀o∈os,okO o=true):∀o∈shO os,okO o=true:=wc os [] (λ_ h=>by cases h) h
def Dj{o:Od}(h:okO o=true):qN o<=40:=by
 cases o with
 |say x=>simp only[okO,Bool.and_eq_true,decide_eq_true_eq]at h;exact h.2.2
 |_=>exact Nat.zero_le _
noncomputable def shG(C:Addr):List D->R D:=λds=>aD (gP (JE C) jnG (aC 4 ds))
def GG{F:List D->R D}(x0 x3:Option Sl)(acc:List Od)(o:Od)(hs:∀p∈acc,okO p=true)(ho:okO o=true)(ha:acc.length<1000):∃y3,fH F jnG [x0,some (.own (acc.map oD)),vD (oD o),x3]=.nx [x0,some (.own ((fZ acc o).map oD)),vD (oD o),y3]:=by
 have z:(acc.map oD).length<sizeLine:=by have:=cz;rw[List.length_map];omega
 have f1:∀(a0 a2 a3:Option Sl)(ds:List D),frz 1 [a0,some (.own ds),a2,a3]=[a0,some (.val (.lst false ds)),a2,a3]:=λ_ _ _ _=>rfl;have o1:∀(a0 a2 a3:Option Sl)(ds:List D),ownAt [a0,some (.own ds),a2,a3] 1=.ok ds:=λ_ _ _ _=>rfl;have ng1:ox (.int 1)=.ok (.int (-1)):=rfl;have i1:isF .non .non=some (.bl true):=rfl;have i2:∀o:Od,isF (oD o) .non=some (.bl false):=λo=>by cases o <;> rfl
 have fl1:=Ke;have fl2:fl 10 .non=true:=rfl;have e8:∀i:Int,asI (.int i)=.ok i:=λ_=>rfl;unfold fH;rcases E9 acc with rfl|⟨a,l,rfl⟩;·exact⟨vD .non,rfl⟩
 ·have em:(a++[l]).map oD=a.map oD++[oD l]:=by simp
  have ej:=ND (o:=l) (p:=o) (by have:=Dj (hs l (by simp));have:=Dj ho;omega);rw[em]at z⊢;have q1:decide ((0:Int)<((a.map oD++[oD l]).length:Int))=true:=by rw[decide_eq_true_eq,List.length_append];show(0:Int)<((_+1:Nat):Int);omega
  have ixl:ixN (a.map oD++[oD l]).length (-1)=some (a.map oD).length:=by
   unfold ixN;rw[if_neg (by omega),if_pos (by simp;omega)]
   congr 1;simp;omega
  have l1:ixD (.lst false (a.map oD++[oD l])) (.int (-1))=some (oD l):=by show atI (a.map oD++[oD l]) (-1)=_;unfold atI;rw[ixl];simp
  cases hj:jA l o with
  |none=>
   rw[hj]at ej;change _=R.ok D.non at ej;refine⟨vD .non,?_⟩;rw[show(fZ (a++[l]) o).map oD=a.map oD++[oD l]++[oD o] by rw[nB hj];simp];clear ha hs em hj ho
   walk_at "run"
  |some j=>
   rw[hj]at ej;change _=R.ok (oD j)at ej;refine⟨vD (oD j),?_⟩;have sl:(a.map oD++[oD l]).set (a.map oD).length (oD j)=a.map oD++[oD j]:=by simp
   rw[show(fZ (a++[l]) o).map oD=a.map oD++[oD j] by rw[kA hj];simp];clear ha hs em hj ho
   walk_at "run"
def D4{F:List D->R D}(x0:Option Sl):∀(os acc:List Od)(x2 x3:Option Sl),(∀p∈acc,okO p=true)->(∀o∈os,okO o=true)->acc.length+os.length<=1000->∃y2 y3,eG (lI 2) (fH F jnG) (os.map oD) [x0,some (.own (acc.map oD)),x2,x3]=.nx [x0,some (.own ((os.foldl fZ acc).map oD)),y2,y3]
 | [],acc,x2,x3,_,_,_=>⟨x2,x3,rfl⟩
 |o::os,acc,x2,x3,h1,h2,hl=>by have ho:=h2 o (List.mem_cons_self ..);rw[List.length_cons]at hl;obtain⟨y3,e⟩:=GG (F:=F) x0 x3 acc o h1 ho (by omega);obtain⟨z2,z3,ih⟩:=D4 (F:=F) x0 os (fZ acc o) (vD (oD o)) y3 (wq h1 ho) (λp hp=>h2 p (List.mem_cons_of_mem _ hp)) (by have:=(wf acc o).2.1;omega);exact⟨z2,z3,(ij rfl e).trans ih⟩
def M7{f:Bool}{os:List Od}(h:∀o∈os,okO o=true)(hl:os.length<=1000):shG C [.lst f (os.map oD)]=.ok (.lst false ((shO os).map oD)):=by
 have h1:=Gx (C:=C) (f:=f) h;obtain⟨y2,y3,e⟩:=D4 (F:=JE C) (vD (.lst f (os.map oD))) os [] none none (λ_ h=>by cases h) h (by rw[List.length_nil];omega);have e2:ce (.lst f (os.map oD))=.ok (os.map oD):=rfl;have f1:∀(a0 a2 a3:Option Sl)(ds:List D),frz 1 [a0,some (.own ds),a2,a3]=[a0,some (.val (.lst false ds)),a2,a3]:=λ_ _ _ _=>rfl;show aD (aI _ _ [vD (.lst f (os.map oD)),none,none,none])=_;rw[List.map_nil]at e;have z:(0<=sizeLine)=True:=eq_true (Nat.zero_le _);unfold shO;clear h hl
 walk_at "run"
noncomputable def arG(C:Addr):List D->R D:=λds=>aD (iG (gH C) lx (aC 2 ds))
noncomputable def crG(C:Addr):List D->R D:=λds=>aD (dP (arG C) C (aC 2 ds))
noncomputable def frG:List D->R D:=λds=>aD (gN (aC 4 ds))
noncomputable def jc(n wd:Nat)(xs:List (List Nat)):List (List Nat):=xs.map (Dm wd)++List.replicate (n - xs.length) (List.replicate wd 32)
section
variable{s:St}{xs:List (List Nat)}{f:Bool}
def tV(hx:cZ s.2.1.length s.1 xs=true):xs.length<=s.2.1.length/\∀x∈xs,plain x=true/\x.length<=s.1:=by simp only[cZ,txt,Bool.and_eq_true,decide_eq_true_eq,List.all_eq_true]at hx;exact hx
def J5(h:GS s)(hx:cZ s.2.1.length s.1 xs=true):arG C [sD s,.lst f (xs.map .str)]=.ok (.bl true):=by
 obtain⟨h1,h2⟩:=tV hx;have hm:=h.m;have hw:=h.w2;have c1:=gA (C:=C) h.screen;have x0:ixD (sD s) (.int 0)=some (.int (s.1:Int)):=rfl;have x1:ixD (sD s) (.int 1)=some (.tup (s.2.1.map .str)):=rfl;have cm:=vP (ge:=oq (aL 1 lx (aa (rvz 0) nlz)) (g2 leD (gOf eI (aa (rvz 0) nlz)) (g2 ixD (rvz 1) (ciz 0)))) D.str (λ_=>.bl true) [vD (sD s)] xs none (λx hx=>by
  obtain⟨p,l⟩:=h2 x hx;have i1:lx [.str x]=.ok (.bl true):=by rw[sA (by omega),p]
  have d1:decide ((x.length:Int)<=(s.1:Int))=true:=by rw[decide_eq_true_eq];omega
  clear h hx c1 x1 h1 h2 hm hw;generalize sD s=S at *
  walk_at "run");have z:(xs.map λ_=>D.bl true).length<=sizeLine:=by have:=cz;rw[List.length_map];omega
 have al:CH [.lst false (xs.map λ_=>D.bl true)]=some (.bl true):=by have:=Hb false (xs.map D.str);rw[List.map_map]at this;exact this
 have i1:∀(d:D)(v:Option Sl),gR [0] [vD d,v]=[none,vD d]:=λ_ _=>rfl;have q1:decide (((s.2.1.map D.str).length:Int)<((xs.map D.str).length:Int))=false:=by rw[List.length_map,List.length_map,decide_eq_false_iff_not];omega
 have y1:km (λx=>x=="list") (.lst f (xs.map .str))=.ok (.bl true):=rfl;have l1:=J3 f (xs.map D.str);show aD (aI _ _ [vD (sD s),vD (.lst f (xs.map .str))])=_;clear h1 h2 hm hw h hx x0;generalize sD s=S at *
 walk_at "run"
def NN(h:GS s)(hx:cZ s.2.1.length s.1 xs=true)(f:Bool):crG C [sD s,.lst f (xs.map .str)]=.ok .non:=by
 have e:=J5 (C:=C) (f:=f) h hx;show aD (aI _ _ [vD (sD s),vD (.lst f (xs.map .str))])=_;clear h hx;generalize sD s=S at *
 walk_at "run"
def ED(h:GS s)(hx:cZ s.2.1.length s.1 xs=true):((s.2.1.map D.str).length:Int) - ((xs.map D.str).length:Int)=((s.2.1.length - xs.length:Nat):Int)/\hV (.str [32]) (.int (s.1:Int))=some (.str (List.replicate s.1 32))/\hV (.lst false [.str (List.replicate s.1 32)]) (.int ((s.2.1.length - xs.length:Nat):Int))=some (.lst false (List.replicate (s.2.1.length - xs.length) (.str (List.replicate s.1 32))))/\dh (.lst false (xs.map λx=>.str (Dm s.1 x))) (.lst false (List.replicate (s.2.1.length - xs.length) (.str (List.replicate s.1 32))))=some (.lst false ((jc s.2.1.length s.1 xs).map .str))/\(xs.map λx=>D.str (Dm s.1 x)).length<=sizeLine:=by obtain⟨h1,_⟩:=tV hx;have hm:=h.m;have hw:=h.w2;have lb:=cz;refine⟨by rw[List.length_map,List.length_map];omega,Hu (by omega),Kn (by omega),?_,by rw[List.length_map];omega⟩;rw[Lj (by rw[List.length_map,List.length_replicate];omega)];unfold jc;rw[List.map_append,List.map_map,List.map_replicate];rfl
def Hs(h:GS s)(hx:cZ s.2.1.length s.1 xs=true)(f:Bool):frG [sD s,.lst f (xs.map .str)]=.ok (.lst false ((jc s.2.1.length s.1 xs).map .str)):=by
 obtain⟨k1,m1,m2,a1,z1⟩:=ED h hx;have hw:=h.w2;have x0:ixD (sD s) (.int 0)=some (.int (s.1:Int)):=rfl;have x1:ixD (sD s) (.int 1)=some (.tup (s.2.1.map .str)):=rfl;have i2:∀(a b c:Option Sl)(d:D),gR [2] [a,b,vD d,c]=[none,vD d]:=λ_ _ _ _=>rfl;have cm:=vP (ge:=im "str" mj (rvz 0) (aa (rvz 1) nlz)) D.str (λx=>.str (Dm s.1 x)) [vD (.int (s.1:Int))] xs none (λx _=>by
  have kd:∀x,nG "str" (.str x)=true:=λ_=>rfl;have j:mj (.str x) [.int (s.1:Int)]=some (.str (Dm s.1 x)):=by simp only[mj,Dm,Int.toNat_natCast];rw[if_pos (by omega)]
  clear k1 m1 m2 a1 z1 x0 x1 i2 h hx hw
  walk_at "run");have il:=J3;have z2:(1<=sizeLine)=True:=eq_true (by decide);show aD (aI _ _ [vD (sD s),vD (.lst f (xs.map .str)),none,none])=_;clear h hx hw;generalize sD s=S at *;generalize (jc s.2.1.length s.1 xs).map D.str=GO at *
 walk_at "run"
open Classical in
noncomputable def crN:List D->R D:=λds=>if ∃(s:St)(xs:List (List Nat))(f:Bool),GS s/\cZ s.2.1.length s.1 xs=true/\ds=[sD s,.lst f (xs.map .str)]then .ok .non else .no
def nY:∀ds:List D,ds.length=2->crN ds=.no\/aD (dP (arG C) C (aC 2 ds))=crN ds:=λds _=>by
 unfold crN;split;·rename_i h;obtain⟨s,xs,f,h,hx,rfl⟩:=h;exact .inr (NN h hx f)
 ·exact .inl rfl
def JX(h:GS s)(hx:cZ s.2.1.length s.1 xs=true)(f:Bool):crN [sD s,.lst f (xs.map .str)]=.ok .non:=if_pos ⟨s,xs,f,h,hx,rfl⟩
end
noncomputable def gU:Ev->O:=(aI (cG (g2 ixD (rvz 0) (ciz 0))) oNx)
noncomputable def gz(bu:List D->R D):Ev->O:=(aI (oIf (nV (qP true 0 (rvz 1)) (gB2 ltD (aL 1 bu (aa (rvz 2) nlz)) (aL 1 bu (aa (iq 0 (rvz 1)) nlz)))) (aI (BU 0 (rvz 1) (rvz 2)) oNx) oNx) oNx)
noncomputable def bA(I_offer:MF)(bV:List D->R D):Ev->O:=(aI (fI (iZ DC 0 2 I_offer (aa (rvz 1) (aa (aJ mkT (aa (g2 dh (g2 ixD (rvz 2) (ciz 0)) (aL 1 bV (aa (rvz 3) nlz))) (aa (g2 dh (g2 ixD (rvz 2) (ciz 1)) (aJ mkT (aa (rvz 3) nlz))) nlz))) nlz)))) oNx)
noncomputable def eR(I_offer_with_order:MF):Ev->O:=(oIf (qP false 3 (λ_=>R.ok (D.tup [D.bl false,D.bl false]))) (aI (fI (iZ DC 3 3 I_offer_with_order (aa (λ_=>R.ok (D.tup [D.bl true,D.bl false])) (aa (iq 3 (λ_=>R.ok (D.tup [D.bl false,D.bl false]))) (aa (aJ mkT (aa (csz [103,111]) (aa (rvz 1) (aa (rvz 2) nlz)))) nlz))))) oNx) oNx)
noncomputable def eJ(I_offer_with_order:MF):Ev->O:=(oIf (qP false 3 (λ_=>R.ok (D.tup [D.bl true,D.bl false]))) (aI (fI (iZ DC 3 3 I_offer_with_order (aa (λ_=>R.ok (D.tup [D.bl true,D.bl true])) (aa (iq 3 (λ_=>R.ok (D.tup [D.bl true,D.bl false]))) (aa (aJ mkT (aa (csz [119,105,112,101]) nlz)) nlz))))) oNx) oNx)
noncomputable def eU(I_offer_with_order:MF):Ev->O:=(oIf (qP false 3 (λ_=>R.ok (D.tup [D.bl false,D.bl true]))) (aI (fI (iZ DC 3 3 I_offer_with_order (aa (λ_=>R.ok (D.tup [D.bl true,D.bl true])) (aa (iq 3 (λ_=>R.ok (D.tup [D.bl false,D.bl true]))) (aa (aJ mkT (aa (csz [103,111]) (aa (rvz 1) (aa (rvz 2) nlz)))) nlz))))) oNx) oNx)
noncomputable def jT(I_offer_with_order:MF):Ev->O:=(qR 3)
noncomputable def eT(I_offer_with_order:MF):Ev->O:=(aI (eR I_offer_with_order) (aI (eJ I_offer_with_order) (aI (eU I_offer_with_order) (aI (jT I_offer_with_order) oNx))))
noncomputable def cE(I_offer_with_order:MF):Addr×Unit->Ev->O:=(yS 3 (rvz 0) (yN (eT I_offer_with_order)))
noncomputable def dw(I_offer_with_order I_offer:MF):Ev->O:=(aI (eY 6 (g2 ixD (rvz 4) (ciz 1))) (aI (oIf (aJ jU (g2 ixD (rvz 4) (ciz 0))) (aI (fI (iZ DC 3 3 I_offer_with_order (aa (aJ mkT (aa (λ_=>R.ok (D.bl true)) (aa (rvz 6) nlz))) (aa (rvz 5) (aa (aJ mkT (aa (csz [115,97,121]) (aa (rvz 2) nlz))) nlz))))) oNx) oNx) (aI (oIf (gB2 eqF (gIf (aJ jU (rvz 6)) (csz [32]) (rvz 1)) (rvz 2)) (aI (fI (iZ DC 3 2 I_offer (aa (aJ mkT (aa (λ_=>R.ok (D.bl false)) (aa (rvz 6) nlz))) (aa (rvz 5) nlz)))) oNx) oNx) oNx)))
noncomputable def cO(I_offer_with_order I_offer:MF):Ev->O:=(wF (xK [4,5]) (aJ AA (rvz 0)) (dw I_offer_with_order I_offer))
noncomputable def fk(I_offer_with_order I_offer:MF):Ev->O:=(qR 3)
noncomputable def mf(I_offer_with_order I_offer:MF):Ev->O:=(aI (cO I_offer_with_order I_offer) (aI (fk I_offer_with_order I_offer) oNx))
noncomputable def cD(I_offer_with_order I_offer:MF):Addr×Unit->Ev->O:=(Dx 3 (yN (mf I_offer_with_order I_offer)))
noncomputable def lF(cN bW:List D->R D):Ev->O:=(aI (eY 5 (aL 3 bW (aa (aL 3 cN (aa (rvz 5) (aa (rvz 1) (aa (rvz 6) nlz)))) (aa (g2 ixD (rvz 2) (rvz 6)) (aa (g2 ixD (rvz 3) (rvz 6)) nlz))))) oNx)
noncomputable def mU(cN bW:List D->R D):Ev->O:=(aI (eY 5 (rvz 0)) (aI (wF (lI 6) (aJ eF (aa (rvz 4) (aa (gOf eI (aa (rvz 2) nlz)) nlz))) (lF cN bW)) (aI (cG (rvz 5)) oNx)))
noncomputable def iP(bu:List D->R D):Ev->O:=(aI (cG (vh (ck (fy (aJ ce (rvz 1)) [0] (qP false 1 (rvz 0)) (iq 1 (rvz 0)))) bu)) oNx)
noncomputable def cB(eW cf:List D->R D):Ev->O:=(aI (eY 3 (aL 5 eW (aa (gD1 (λ_=>R.ok (D.tup [D.bl false,D.bl false])) (λ_=>R.ok (D.tup [D.int 0,D.tup []]))) (aa (rvz 0) (aa (rvz 1) (aa (rvz 2) (aa (ciz 0) nlz))))))) (aI (cG (aL 2 cf (aa (rvz 3) (aa (aJ mkT (aa (λ_=>R.ok (D.tup [D.bl false,D.bl false])) (aa (λ_=>R.ok (D.tup [D.bl true,D.bl false])) (aa (λ_=>R.ok (D.tup [D.bl false,D.bl true])) (aa (λ_=>R.ok (D.tup [D.bl true,D.bl true])) nlz))))) nlz)))) oNx))
noncomputable def cY(eW cf:List D->R D):Ev->O:=(aI (eY 4 (aL 5 eW (aa (gD1 (λ_=>R.ok (D.tup [D.bl true,D.bl false])) (λ_=>R.ok (D.tup [D.int 0,D.tup []]))) (aa (rvz 0) (aa (rvz 1) (aa (rvz 2) (aa (rvz 3) nlz))))))) (aI (eY 5 (aL 2 cf (aa (rvz 4) (aa (aJ mkT (aa (λ_=>R.ok (D.tup [D.bl false,D.bl false])) (aa (λ_=>R.ok (D.tup [D.bl true,D.bl false])) (aa (λ_=>R.ok (D.tup [D.bl false,D.bl true])) (aa (λ_=>R.ok (D.tup [D.bl true,D.bl true])) nlz))))) nlz)))) (aI (eY 4 (aL 5 eW (aa (gD1 (λ_=>R.ok (D.tup [D.bl false,D.bl false])) (λ_=>R.ok (D.tup [D.int 0,D.tup []]))) (aa (rvz 0) (aa (gSl (rvz 1) (λ_=>R.ok none) (rR (rvz 3))) (aa (gSl (rvz 2) (λ_=>R.ok none) (rR (rvz 3))) (aa (ciz 0) nlz))))))) (aI (eY 6 (aL 2 cf (aa (rvz 4) (aa (aJ mkT (aa (λ_=>R.ok (D.tup [D.bl false,D.bl false])) (aa (λ_=>R.ok (D.tup [D.bl true,D.bl false])) nlz))) nlz)))) (aI (cG (aJ mkT (aa (g2 dh (g2 ixD (rvz 5) (ciz 0)) (g2 ixD (rvz 6) (ciz 0))) (aa (g2 dh (g2 ixD (rvz 5) (ciz 1)) (g2 ixD (rvz 6) (ciz 1))) nlz)))) oNx)))))
noncomputable def cK(aO ci bu:List D->R D):Ev->O:=(aI (eY 4 (ck (xv (aa (aL 4 ci (aa (rvz 0) (aa (rvz 1) (aa (rvz 2) (aa (rvz 3) nlz))))) (aa (aL 3 aO (aa (rvz 0) (aa (rvz 1) (aa (rvz 2) nlz)))) nlz))))) (aI (cG (vh (rvz 4) bu)) oNx))
noncomputable def lH(cJ bM:List D->R D)(bt aO dc:List D->R D):Ev->O:=(aI (oIf (gB2 neF (rvz 5) (rvz 3)) (aI (E8 4 (g2 ixD (aL 3 aO (aa (rvz 5) (aa (rvz 6) (aa (g2 ixD (rvz 2) (rvz 5)) nlz)))) (ciz 1))) oNx) oNx) oNx)
noncomputable def mM(cJ bM:List D->R D)(bt aO dc:List D->R D):Ev->O:=(aI (ka (aL 2 cJ (aa (rvz 0) (aa (rvz 1) nlz)))) (aI (eY 2 (aL 2 bM (aa (rvz 0) (aa (rvz 1) nlz)))) (aI (eY 3 (g2 ixD (g2 ixD (rvz 0) (ciz 2)) (ciz 0))) (aI (Ck 4 (FO (aa (g2 ixD (aL 4 bt (aa (rvz 3) (aa (g2 ixD (g2 ixD (rvz 0) (ciz 1)) (rvz 3)) (aa (g2 ixD (rvz 2) (rvz 3)) (aa (g2 ixD (g2 ixD (rvz 0) (ciz 2)) (ciz 1)) nlz))))) (ciz 1)) nlz))) (aI (wF (xK [5,6]) (aJ vw (g2 ixD (rvz 0) (ciz 1))) (lH cJ bM bt aO dc)) (EW 4 (aI (cG (aL 1 dc (aa (rvz 4) nlz))) oNx)))))))
noncomputable def fT(nq sF:List D->R D):Ev->O:=(aI (cG (aL 1 sF (aa (aL 2 nq (aa (rvz 0) (aa (rvz 1) nlz))) nlz))) oNx)
noncomputable def kg(aB:Addr)(am bT:MF)(ao bM:List D->R D):Ev->O:=(aI (eY 2 (bZ aB 0 am)) (aI (eY 3 (aL 2 ao (aa (rvz 2) (aa (rvz 1) nlz)))) (aI (rh aB 0 3 bT (aa (csz [98,114,105,110,103]) (aa (aJ mkT (aa (g2 ixD (rvz 2) (ciz 0)) (aa (gOf jL (aa (aL 2 bM (aa (rvz 2) (aa (rvz 1) nlz))) nlz)) (aa (g2 ixD (rvz 2) (ciz 2)) nlz)))) (aa (rvz 3) nlz)))) (aI (CA (rvz 3)) oNx))))
noncomputable abbrev Ky:=Bool×Bool
noncomputable abbrev Pl:=Nat×List Od
noncomputable abbrev Mp:=List (Ky×Pl)
noncomputable def pD(p:Pl):D:=.tup [.int (p.1:Int),.tup (p.2.map oD)]
noncomputable def kD(k:Ky):D:=.tup [.bl k.1,.bl k.2]
noncomputable def kN(k:Ky):Nat:=code k.1 k.2
noncomputable def fsD(m:Mp):List (Nat×Fd):=m.map λz=>(kN z.1,.val (pD z.2))
noncomputable def kvD(m:Mp):List (Nat×D):=m.map λz=>(kN z.1,pD z.2)
noncomputable def dD(m:Mp):D:=.dct (m.map λz=>kN z.1) (m.map λz=>pD z.2)
noncomputable def xH(k:Ky)(p:Pl):Mp->Mp
 | []=>[(k,p)]
 | (j,x)::r=>if j=k then (j,p)::r else (j,x)::xH k p r
noncomputable def cC(m:Mp)(k:Ky)(p:Pl):Mp:=match m.lookup k with
 |none=>xH k p m
 |some q=>if p.1<q.1 then xH k p m else m
noncomputable def my(p:Pl)(o:Od):Pl:=(p.1+dm o,p.2++[o])
def DT{a b:Ky}(h:kN a=kN b):a=b:=by obtain⟨a1,a2⟩:=a;obtain⟨b1,b2⟩:=b;revert h;cases a1 <;> cases a2 <;> cases b1 <;> cases b2 <;> simp[kN,code]
def nu(k:Ky):tI (kD k)=some (kN k):=rfl
def ul:∀m:Mp,fvs (fsD m)=some (kvD m)
 | []=>rfl
 |z::m=>by show(fvs (fsD m)).map _=_;rw[ul m];rfl
def yz:∀m:Mp,(m.map λz=>kN z.1).zip (m.map λz=>pD z.2)=kvD m
 | []=>rfl
 |z::m=>congrArg ((kN z.1,pD z.2)::·) (yz m)
def D3:∀m:Mp,(m.map λz=>kN z.1).zip ((m.map λz=>pD z.2).map Fd.val)=fsD m
 | []=>rfl
 |z::m=>congrArg ((kN z.1,Fd.val (pD z.2))::·) (D3 m)
def nR(k:Ky):∀m:Mp,(kvD m).lookup (kN k)=(m.lookup k).map pD
 | []=>rfl
 | (j,x)::m=>by
  show List.lookup (kN k) ((kN j,pD x)::kvD m)=_;rw[List.lookup_cons,List.lookup_cons];by_cases h:k=j;·subst h;rw[beq_self_eq_true,beq_self_eq_true];rfl
  ·rw[beq_eq_false_iff_ne.2 λz=>h (DT z),beq_eq_false_iff_ne.2 h];exact nR k m
def DL(k:Ky)(p:Pl):∀m:Mp,jm (kN k) (.val (pD p)) (fsD m)=fsD (xH k p m)
 | []=>rfl
 | (j,x)::m=>by
  show(if kN j=kN k then _ else _)=fsD (if j=k then _ else _);by_cases h:j=k;·subst h;rw[if_pos rfl,if_pos rfl];rfl
  ·rw[if_neg λz=>h (DT z),if_neg h];show(_,_)::jm _ _ (fsD m)=(_,_)::fsD _;rw[DL k p m]
def Gf(m:Mp):(fsD m).length=m.length:=by unfold fsD;simp
noncomputable def keys(m:Mp):List Ky:=m.map (·.1)
def MD:∀a b c d e:Ky,¬ [a,b,c,d,e].Nodup:=by intro ⟨a1,a2⟩ ⟨b1,b2⟩ ⟨c1,c2⟩ ⟨d1,d2⟩ ⟨e1,e2⟩;revert a1 a2 b1 b2 c1 c2 d1 d2 e1 e2;decide
def few:∀{l:List Ky},l.Nodup->l.length<=4
 | [],_=>by simp
 | [_],_=>by simp
 | [_,_],_=>by simp
 | [_,_,_],_=>by simp
 | [_,_,_,_],_=>by simp
 |a::b::c::d::e::r,h=>by exfalso;have h':(a::b::c::d::e::r).take 5=[a,b,c,d,e]:=rfl;exact MD a b c d e (h'▸h.sublist (List.take_sublist 5 _))
def pM{k:Ky}{p:Pl}:∀{m:Mp},m.lookup k=some p->(k,p)∈m
 | (j,x)::m,e=>by
  rw[List.lookup_cons]at e;by_cases q:k=j;·subst q;rw[beq_self_eq_true]at e;cases e;exact List.mem_cons_self ..
  ·rw[beq_eq_false_iff_ne.2 q]at e;exact List.mem_cons_of_mem _ (pM e)
def wg{k:Ky}{p:Pl}:∀{m:Mp},keys (xH k p m)=if k∈keys m then keys m else keys m++[k]
 | []=>rfl
 | (j,x)::m=>by
  show keys (if j=k then (j,p)::m else (j,x)::xH k p m)=_;by_cases q:j=k;·rw[if_pos q,if_pos (by rw[<- q];exact List.mem_cons_self ..)];rfl
  ·rw[if_neg q];show j::keys (xH k p m)=if k∈j::keys m then j::keys m else j::keys m++[k];rw[wg];by_cases h:k∈keys m;·rw[if_pos h,if_pos (List.mem_cons_of_mem _ h)]
   ·rw[if_neg h,if_neg (λz=>by rcases List.mem_cons.1 z with z|z;exact q z.symm;exact h z)];rfl
def rg{k:Ky}{p:Pl}{m:Mp}(h:(keys m).Nodup):(keys (xH k p m)).Nodup:=by
 rw[wg];split;·exact h
 ·rename_i q;rw[List.nodup_append];exact⟨h,by simp,λa ha b hb=>by rw[List.mem_singleton.1 hb];intro z;exact q (z▸ha)⟩
def uR{k:Ky}{p:Pl}{z:Ky×Pl}:∀{m:Mp},z∈xH k p m->z∈m\/z=(k,p)
 | [],h=>.inr (List.mem_singleton.1 h)
 | (j,x)::m,h=>by
  replace h:z∈(if j=k then (j,p)::m else (j,x)::xH k p m):=h
  split at h
  ·rename_i q;subst q;rcases List.mem_cons.1 h with h|h;·exact .inr h
   ·exact .inl (List.mem_cons_of_mem _ h)
  ·rcases List.mem_cons.1 h with h|h;·exact .inl (h▸List.mem_cons_self ..)
   ·rcases uR h with h|h;·exact .inl (List.mem_cons_of_mem _ h)
    ·exact .inr h
def qk{k j:Ky}{p:Pl}:∀{m:Mp},(xH k p m).lookup j=if j=k then some p else m.lookup j
 | []=>by
  show List.lookup j [(k,p)]=_;rw[List.lookup_cons];by_cases q:j=k;·rw[if_pos q,q,beq_self_eq_true]
  ·rw[if_neg q,beq_eq_false_iff_ne.2 q]
 | (i,x)::m=>by
  show List.lookup j (if i=k then (i,p)::m else (i,x)::xH k p m)=_;by_cases q:i=k
  ·subst q;rw[if_pos rfl,List.lookup_cons,List.lookup_cons];by_cases z:j=i;·rw[if_pos z,z,beq_self_eq_true]
   ·rw[if_neg z,beq_eq_false_iff_ne.2 z]
  ·rw[if_neg q,List.lookup_cons,List.lookup_cons];by_cases z:j=i;·rw[z,beq_self_eq_true];dsimp only;rw[if_neg q]
   ·rw[beq_eq_false_iff_ne.2 z];exact qk
def oK{m:Mp}{k j:Ky}{p:Pl}:(cC m k p).lookup j=if j=k then (match m.lookup k with
  |none=>some p
  |some q=>if p.1<q.1 then some p else some q)else m.lookup j:=by
 unfold cC;cases e:m.lookup k with
 |none=>dsimp only;exact qk
 |some q=>
  dsimp only;by_cases h:p.1<q.1;·rw[if_pos h,if_pos h];exact qk
  ·rw[if_neg h,if_neg h];by_cases z:j=k;·rw[if_pos z,z,e]
   ·rw[if_neg z]
def gL{m:Mp}{k:Ky}{p:Pl}(h:(keys m).Nodup):(keys (cC m k p)).Nodup:=by
 unfold cC;split;·exact rg h
 ·split;·exact rg h
  ·exact h
def yv{m:Mp}{k:Ky}{p:Pl}{z:Ky×Pl}(h:z∈cC m k p):z∈m\/z=(k,p):=by
 unfold cC at h;split at h;·exact uR h
 ·split at h;·exact uR h
  ·exact .inl h
noncomputable def All(P:Ky->Pl->Prop)(m:Mp):Prop:=∀z∈m,P z.1 z.2
def All.offer{P:Ky->Pl->Prop}{m:Mp}{k:Ky}{p:Pl}(h:All P m)(hp:P k p):All P (cC m k p):=λz hz=>by
 rcases yv hz with q|q;·exact h z q
 ·subst q;exact hp
def All.at{P:Ky->Pl->Prop}{m:Mp}{k:Ky}{p:Pl}(h:All P m)(e:m.lookup k=some p):P k p:=h _ (pM e)
noncomputable abbrev dO(q:Addr)(m:Mp):Option Sl:=some (.obj true DC q (fsD m))
def DB{n:Nat}(h1:ge ρ=.ok d)(h2:tI d=some n)(h3:rW ρ i=.ok kv):qP neg i ge ρ=.ok (if neg then !(kv.lookup n).isSome else (kv.lookup n).isSome):=by unfold qP;rw[h1,R.ok_bind,h2,cS,R.ok_bind,h3,R.ok_bind]
def yn{v:D}{n:Nat}(h3:rW ρ i=.ok kv)(h1:ge ρ=.ok d)(h2:tI d=some n)(h4:kv.lookup n=some v):iq i ge ρ=.ok v:=by unfold iq;rw[h3,R.ok_bind,h1,R.ok_bind,h2];show ofO (kv.lookup n)=_;rw[h4];rfl
def wt{b:Bool}{m:Mp}(h:ρ[i]?=some (some (.obj b DC p (fsD m)))):rW ρ i=.ok (kvD m):=by unfold rW;rw[h];dsimp only;rw[if_pos rfl,ul];rfl
def Bf{m:Mp}(h:ρ[i]?=some (vD (dD m))):rW ρ i=.ok (kvD m):=by unfold rW;rw[h];unfold dD;dsimp only;rw[yz]
def FY{gk ga:Ev->R D}{m:Mp}{k:Ky}{p:Pl}(h:ρ[i]?=some (dO q m))(hd:ga ρ=.ok (pD p))(hk:gk ρ=.ok (kD k))(hl:m.length<900):
  BU i gk ga ρ=.nx (ρ.set i (dO q (xH k p m))):=by
 unfold BU;rw[iJ h,R.ok_out,hd,jt,R.ok_out,hk,jt,R.ok_out,nu];dsimp only;rw[if_pos (by rw[Gf];exact hl),DL]
def yg{b:Bool}{m:Mp}{k:Ky}(h:ρ[i]?=some (some (.obj b DC q (fsD m))))(hk:ge ρ=.ok (kD k)):qP neg i ge ρ=.ok (if neg then !(m.lookup k).isSome else (m.lookup k).isSome):=by rw[DB hk (nu k) (wt h),nR,Option.isSome_map]
def wk{b:Bool}{m:Mp}{k:Ky}{p:Pl}(h:ρ[i]?=some (some (.obj b DC q (fsD m))))(hk:ge ρ=.ok (kD k))(e:m.lookup k=some p):iq i ge ρ=.ok (pD p):=
 yn (wt h) hk (nu k) (by rw[nR,e];rfl)
noncomputable def pcF:List D->R D:=λds=>aD (gU (aC 1 ds))
def Cq(p:Pl):pcF [pD p]=.ok (.int (p.1:Int)):=rfl
def vT(q:Addr)(m:Mp)(k:Ky)(p:Pl)(hl:m.length<900):
  gz pcF [dO q m,vD (kD k),vD (pD p)]=.nx [dO q (cC m k p),vD (kD k),vD (pD p)]:=by
 unfold gz;have h1:=yg (neg:=true) (i:=0) (ge:=λρ=>rdV ρ 1) (ρ:=[dO q m,vD (kD k),vD (pD p)]) (k:=k) rfl rfl;have h2:=FY (i:=0) (gk:=λρ=>rdV ρ 1) (ga:=λρ=>rdV ρ 2) (ρ:=[dO q m,vD (kD k),vD (pD p)]) (k:=k) (p:=p) rfl rfl rfl hl;have h3:=Cq p;unfold cC;cases e:m.lookup k with
 |none=>
  rw[e]at h1;dsimp only[Option.isSome_none,Bool.not_false,if_true]at h1;clear e hl
  walk_at "run"
 |some p0=>
  rw[e]at h1;have h4:=wk (i:=0) (ge:=λρ=>rdV ρ 1) (ρ:=[dO q m,vD (kD k),vD (pD p)]) rfl rfl e;have h5:=Cq p0;dsimp only[Option.isSome_some,Bool.not_true,if_true]at h1;have h6:ltD (.int (p.1:Int)) (.int (p0.1:Int))=some (.bl (decide (p.1<p0.1))):=by show some (D.bl (decide ((p.1:Int)<(p0.1:Int))))=_;rw[show decide ((p.1:Int)<(p0.1:Int))=decide (p.1<p0.1) from decide_eq_decide.2 Int.ofNat_lt]
  clear e hl;by_cases h:p.1<p0.1
  ·rw[decide_eq_true h]at h6;dsimp only;rw[if_pos h];clear h
   walk_at "run"
  ·rw[decide_eq_false h]at h6;dsimp only;rw[if_neg h];clear h
   walk_at "run"
noncomputable def NS(ρ:Ev):RM:=match (ρ[0]?:Option (Option Sl))with
 |some (some (.obj _ _ _ fs))=>.ok .non fs
 |_=>.no
noncomputable def JP(o:O):RM:=match o with
 |.nx ρ=>NS ρ
 |_=>.no
open Classical in
noncomputable def df:MF:=λfs ds=>if ∃m k p,fs=fsD m/\ds=[kD k,pD p]/\m.length<900 then JP (gz pcF (dA true DC 0 fs 3 ds))else .no
def pE{m:Mp}(k:Ky)(p:Pl)(hl:m.length<900):df (fsD m) [kD k,pD p]=.ok .non (fsD (cC m k p)):=by unfold df;rw[if_pos ⟨m,k,p,rfl,rfl,hl⟩];show JP (gz pcF [some (.obj true DC 0 (fsD m)),vD (kD k),vD (pD p)])=_;rw[vT 0 m k p hl];rfl
def Dc:cV DC (gz pcF) 3 df:=by
 intro q fs ds;by_cases h:∃m k p,fs=fsD m/\ds=[kD k,pD p]/\m.length<900;·obtain⟨m,k,p,rfl,rfl,hl⟩:=h;rw[pE k p hl];exact⟨_,rfl,.inr ⟨vT q m k p hl,rfl⟩⟩
 ·have e:df fs ds=.no:=by unfold df;exact if_neg h
  rw[e];trivial
def C4{n:Nat}{fs:List (Nat×Fd)}(ho:ρ[i]?=some (some (.obj true C p fs)))(ha:gl ρ=.ok ds)(hl:ds.length=n)(hF:F fs ds=.ok d fs'):fI (iZ C i n F gl) ρ=.nx (ρ.set i (some (.obj true C p fs'))):=by unfold fI;rw[vJ ho ha hl hF];rfl
def LN{p:Pl}{o:Od}(h:p.2.length<900):dh (.tup (p.2.map oD)) (.tup [oD o])=some (.tup ((p.2++[o]).map oD)):=by
 have h1:1000<=sizeLine:=by decide
 show(if _ then _ else _)=_;rw[if_pos (by simp;omega)];simp
def DI(q:Addr)(m:Mp)(k:Ky)(p:Pl)(o:Od)(hl:m.length<900)(hp:p.2.length<900):
  bA df ocG [dO q m,vD (kD k),vD (pD p),vD (oD o)]=.nx [dO q (cC m k (my p o)),vD (kD k),vD (pD p),vD (oD o)]:=by
 unfold bA;show(fI (iZ DC 0 2 df _) _).seq _=_;rw[C4 (n:=2) (ds:=[kD k,pD (my p o)]) (d:=.non) (fs':=fsD (cC m k (my p o))) rfl ?_ rfl (pE k (my p o) hl)];·rfl
 ·have h1:=L4 o;have h2:=LN (p:=p) (o:=o) hp;have h3:ixD (pD p) (.int 0)=some (.int (p.1:Int)):=rfl;have h4:ixD (pD p) (.int 1)=some (.tup (p.2.map oD)):=rfl;have h5:dh (.int (p.1:Int)) (.int (dm o:Int))=some (.int ((p.1+dm o:Nat):Int)):=rfl;have h6:mkT [oD o]=.ok (.tup [oD o]):=rfl;have h7:mkT [.int ((p.1+dm o:Nat):Int),.tup ((p.2++[o]).map oD)]=.ok (pD (my p o)):=rfl;clear hl hp
  walk_at "run"
open Classical in
noncomputable def kq:MF:=λfs ds=>if ∃m k p o,fs=fsD m/\ds=[kD k,pD p,oD o]/\m.length<900/\p.2.length<900 then JP (bA df ocG (dA true DC 0 fs 4 ds))else .no
def zU{m:Mp}(k:Ky){p:Pl}(o:Od)(hl:m.length<900)(hp:p.2.length<900):kq (fsD m) [kD k,pD p,oD o]=.ok .non (fsD (cC m k (my p o))):=by unfold kq;rw[if_pos ⟨m,k,p,o,rfl,rfl,hl,hp⟩];show JP (bA df ocG [some (.obj true DC 0 (fsD m)),vD (kD k),vD (pD p),vD (oD o)])=_;rw[DI 0 m k p o hl hp];rfl
def jv:cV DC (bA df ocG) 4 kq:=by
 intro q fs ds;by_cases h:∃m k p o,fs=fsD m/\ds=[kD k,pD p,oD o]/\m.length<900/\p.2.length<900;·obtain⟨m,k,p,o,rfl,rfl,hl,hp⟩:=h;rw[zU k o hl hp];exact⟨_,rfl,.inr ⟨DI q m k p o hl hp,rfl⟩⟩
 ·have e:kq fs ds=.no:=by unfold kq;exact if_neg h
  rw[e];trivial
noncomputable def move(m:Mp)(a b:Ky)(o:Od):Mp:=match m.lookup a with
 |some p=>cC m b (my p o)
 |none=>m
noncomputable def kX(m:Mp)(n c:Nat):Mp:=move (move (move m (false,false) (true,false) (.go n c)) (true,false) (true,true) .wipe) (false,true) (true,true) (.go n c)
noncomputable def Len(J:Nat)(m:Mp):Prop:=All (λ_ p=>p.2.length<=J) m
def Len.mono{K:Nat}{m:Mp}(h:Len J m)(l:J<=K):Len K m:=λz hz=>Nat.le_trans (h z hz) l
def Len.move{J:Nat}{m:Mp}(h:Len J m)(a b:Ky)(o:Od):Len (J+1) (move m a b o):=by
 unfold Q.move;cases e:m.lookup a with
 |none=>exact h.mono (Nat.le_succ _)
 |some p=>exact All.offer (h.mono (Nat.le_succ _)) (by have:=All.at h e;simp only[my,List.length_append,List.length_singleton];omega)
def oB{m:Mp}(h:(keys m).Nodup)(a b:Ky)(o:Od):(keys (move m a b o)).Nodup:=by
 unfold move;split;·exact gL h
 ·exact h
def FX{m:Mp}(h:(keys m).Nodup):m.length<=4:=by have:=few h;rwa [keys,List.length_map]at this
def tW{x0 x1 x2:Option Sl}{m:Mp}(a b:Ky){o:Od}{go:Ev->R D}(hgo:go [x0,x1,x2,dO q m]=.ok (oD o))(hn:(keys m).Nodup)(hp:Len J m)(hJ:J<900):
  oIf (qP false 3 (λ_=>R.ok (kD a))) (aI (fI (iZ DC 3 3 kq (aa (λ_=>R.ok (kD b)) (aa (iq 3 (λ_=>R.ok (kD a))) (aa go nlz))))) oNx) oNx [x0,x1,x2,dO q m] =
   .nx [x0,x1,x2,dO q (move m a b o)]:=by
 have h1:=yg (neg:=false) (i:=3) (ge:=λ_=>R.ok (kD a)) (ρ:=[x0,x1,x2,dO q m]) (k:=a) rfl rfl;have hl:=FX hn;unfold move;cases e:m.lookup a with
 |none=>
  rw[e]at h1;dsimp only[Option.isSome_none,Bool.false_eq_true,if_false]at h1⊢;clear e hl hp
  walk_at "run"
 |some p=>
  rw[e]at h1;dsimp only[Option.isSome_some,Bool.false_eq_true,if_false]at h1⊢;have h2:=wk (i:=3) (ge:=λ_=>R.ok (kD a)) (ρ:=[x0,x1,x2,dO q m]) rfl rfl e;have h4:fI (iZ DC 3 3 kq (aa (λ_=>R.ok (kD b)) (aa (iq 3 (λ_=>R.ok (kD a))) (aa go nlz)))) [x0,x1,x2,dO q m]=.nx [x0,x1,x2,dO q (cC m b (my p o))]:=by
   refine C4 (ds:=[kD b,pD p,oD o]) (d:=.non) rfl ?_ rfl (zU b o (by omega) (by have:=All.at hp e;omega));clear hl hp e h1
   walk_at "run"
  clear e hl hp h2 hgo
  walk_at "run"
def zn{m:Mp}(h:ρ[i]?=some (dO q m)):qR i ρ=.rt (dD m):=by unfold qR;rw[h];dsimp only;rw[if_pos rfl,ul];show O.rt (.dct ((kvD m).map (·.1)) ((kvD m).map (·.2)))=_;unfold kvD dD;simp only[List.map_map];rfl
def Gs(q:Addr×Unit){m:Mp}(n c:Nat)(hm:m≠[])(hn:(keys m).Nodup)(hp:Len J m)(hJ:J<890):cE kq q (aC 4 [dD m,.int (n:Int),.int (c:Int)])=.rt (dD (kX m n c)):=by
 have h0:cE kq q (aC 4 [dD m,.int (n:Int),.int (c:Int)])=eT kq [vD (dD m),vI n,vI c,some (.obj true DC q.1 (fsD m))]:=by
  cases m with
  |nil=>exact absurd rfl hm
  |cons z r=>show eT kq [_,_,_,some (.obj true DC q.1 ((((z::r:Mp).map λz=>kN z.1)).zip ((((z::r:Mp).map λz=>pD z.2)).map Fd.val)))]=_;rw[D3]
 rw[h0];have h1:=tW (x0:=vD (dD m)) (x1:=vI n) (x2:=vI c) (q:=q.1) (false,false) (true,false) (o:=.go n c) (go:=aJ mkT (aa (csz [103,111]) (aa (rvz 1) (aa (rvz 2) nlz)))) rfl hn hp (by omega);have n1:=oB hn (false,false) (true,false) (.go n c);have l1:=hp.move (false,false) (true,false) (.go n c);have h2:=tW (x0:=vD (dD m)) (x1:=vI n) (x2:=vI c) (q:=q.1) (true,false) (true,true) (o:=.wipe) (go:=aJ mkT (aa (csz [119,105,112,101]) nlz)) rfl n1 l1 (by omega);have n2:=oB n1 (true,false) (true,true) .wipe;have l2:=l1.move (true,false) (true,true) .wipe;have h3:=tW (x0:=vD (dD m)) (x1:=vI n) (x2:=vI c) (q:=q.1) (false,true) (true,true) (o:=.go n c) (go:=aJ mkT (aa (csz [103,111]) (aa (rvz 1) (aa (rvz 2) nlz)))) rfl n2 l2 (by omega);unfold eT;show(eR kq _).seq _=_;rw[show eR kq _=_ from h1];show(eJ kq _).seq _=_;rw[show eJ kq _=_ from h2];show(eU kq _).seq _=_;rw[show eU kq _=_ from h3];show(qR 3 _).seq _=_;rw[zn (q:=q.1) (m:=kX m n c) rfl];rfl
open Classical in
noncomputable def wmF:List D->R D:=λds=>if ∃m,∃n c:Nat,ds=[dD m,.int (n:Int),.int (c:Int)]/\m≠[]/\(keys m).Nodup/\Len 880 m then aD (cE kq (0,()) (aC 4 ds))else .no
def GH{m:Mp}(n c:Nat)(hm:m≠[])(hn:(keys m).Nodup)(hp:Len J m)(hJ:J<=880):wmF [dD m,.int (n:Int),.int (c:Int)]=.ok (dD (kX m n c)):=by unfold wmF;rw[if_pos ⟨m,n,c,rfl,hm,hn,hp.mono hJ⟩,Gs _ n c hm hn hp (by omega)];rfl
def qA:∀ds:List D,ds.length=3->wmF ds=.no\/∀q,aD (cE kq q (aC 4 ds))=wmF ds:=by
 intro ds _;by_cases h:∃m,∃n c:Nat,ds=[dD m,.int (n:Int),.int (c:Int)]/\m≠[]/\(keys m).Nodup/\Len 880 m;·obtain⟨m,n,c,rfl,hm,hn,hp⟩:=h;refine .inr λq=>?_;rw[GH n c hm hn hp (Nat.le_refl _),Gs q n c hm hn hp (by omega)];rfl
 ·exact .inl (by unfold wmF;exact if_neg h)
noncomputable def und(old:Nat)(b:Bool):Nat:=match b with
 |true=>32
 |false=>old
def dR{h:Ev->O}{ρ1:Ev}(e:g ρ=.nx ρ1):aI g h ρ=h ρ1:=by show(g ρ).seq h=_;rw[e];rfl
noncomputable def xU(old new:Nat)(acc:Mp)(z:Ky×Pl):Mp:=
 let a1:=if z.1.1=true then cC acc (true,z.1.2) (my z.2 (.say [new]))else acc
 if und old z.1.2=new then cC a1 (false,z.1.2) z.2 else a1
noncomputable def C6(old new:Nat)(m:Mp):Mp:=m.foldl (xU old new) []
def oN{old new:Nat}{acc:Mp}{z:Ky×Pl}(h:(keys acc).Nodup):(keys (xU old new acc z)).Nodup:=by
 unfold xU;have h1:(keys (if z.1.1=true then cC acc (true,z.1.2) (my z.2 (.say [new]))else acc)).Nodup:=by
  split;·exact gL h
  ·exact h
 dsimp only;split;·exact gL h1
 ·exact h1
def lR{α:Type}{P:Mp->Prop}{f:Mp->α->Mp}:∀{l:List α}{a:Mp},P a->(∀a x,x∈l->P a->P (f a x))->P (l.foldl f a)
 | [],_,h,_=>h
 |x::l,a,h,H=>lR (l:=l) (H a x (List.mem_cons_self ..) h) λa y hy=>H a y (List.mem_cons_of_mem _ hy)
def wO{old new:Nat}{m:Mp}:(keys (C6 old new m)).Nodup:=lR (P:=λm=>(keys m).Nodup) List.Pairwise.nil λ_ _ _ h=>oN h
def wy{old new:Nat}{m:Mp}{P R:Ky->Pl->Prop}(h:All P m)(h1:∀k p,P k p->k.1=true->R (true,k.2) (my p (.say [new])))(h2:∀k p,P k p->und old k.2=new->R (false,k.2) p):All R (C6 old new m):=by
 refine lR (P:=All R) (λz hz=>nomatch hz) λa x hx ha=>?_;unfold xU;dsimp only;have g1:All R (if x.1.1=true then cC a (true,x.1.2) (my x.2 (.say [new]))else a):=by
  split;·rename_i q;exact All.offer ha (h1 _ _ (h x hx) q)
  ·exact ha
 split;·rename_i q;exact All.offer g1 (h2 _ _ (h x hx) q)
 ·exact g1
def zE{x0 x6:Option Sl}{acc:Mp}(old new:Nat)(k:Ky)(p:Pl)(hn:(keys acc).Nodup)(hp:p.2.length<900):
  dw kq df [x0,vS [old],vS [new],dO q acc,vD (kD k),vD (pD p),x6] =
   .nx [x0,vS [old],vS [new],dO q (xU old new acc (k,p)),vD (kD k),vD (pD p),vD (.bl k.2)]:=by
 obtain⟨k1,k2⟩:=k;unfold dw xU;have i1:ixD (kD (k1,k2)) (.int 1)=some (.bl k2):=rfl;have i0:ixD (kD (k1,k2)) (.int 0)=some (.bl k1):=rfl;have fin:∀a1:Mp,(keys a1).Nodup->oIf (gB2 eqF (gIf (aJ jU (rvz 6)) (csz [32]) (rvz 1)) (rvz 2)) (aI (fI (iZ DC 3 2 df (aa (aJ mkT (aa (λ_=>R.ok (D.bl false)) (aa (rvz 6) nlz))) (aa (rvz 5) nlz)))) oNx) oNx
   [x0,vS [old],vS [new],dO q a1,vD (kD (k1,k2)),vD (pD p),vD (.bl k2)] =
   .nx [x0,vS [old],vS [new],dO q (if und old k2=new then cC a1 (false,k2) p else a1),vD (kD (k1,k2)),vD (pD p),vD (.bl k2)]:=by
  intro a1 n1;have hl:=FX n1;have h4:=C4 (C:=DC) (i:=3) (n:=2) (F:=df) (gl:=aa (aJ mkT (aa (λ_=>R.ok (D.bl false)) (aa (rvz 6) nlz))) (aa (rvz 5) nlz)) (ρ:=[x0,vS [old],vS [new],dO q a1,vD (kD (k1,k2)),vD (pD p),vD (.bl k2)]) (ds:=[kD (false,k2),pD p]) (d:=.non) rfl rfl rfl (pE (false,k2) p (by omega));have h6:∀y:Nat,eqF (.str [y]) (.str [new])=some (.bl (decide (y=new))):=λy=>by
   rw[Mh];congr 2;by_cases z:y=new;·rw[z,beq_self_eq_true,decide_eq_true rfl]
   ·rw[decide_eq_false z,beq_eq_false_iff_ne];intro y;exact z (by injection y)
  clear i1 i0 hl hp hn;have h7:=h6 (und old k2);clear h6;by_cases z:und old k2=new;·rw[decide_eq_true z]at h7;rw[if_pos z];clear z;cases k2 <;> dsimp only[und]at h7 <;> walk_at "run"
  ·rw[decide_eq_false z]at h7;rw[if_neg z];clear z;cases k2 <;> dsimp only[und]at h7 <;> walk_at "run"
 have hl:=FX hn;cases k1 with
 |true=>
  have f1:=fin (cC acc (true,k2) (my p (.say [new]))) (gL hn);have h4:=C4 (C:=DC) (i:=3) (n:=3) (F:=kq) (gl:=aa (aJ mkT (aa (λ_=>R.ok (D.bl true)) (aa (rvz 6) nlz))) (aa (rvz 5) (aa (aJ mkT (aa (csz [115,97,121]) (aa (rvz 2) nlz))) nlz))) (ρ:=[x0,vS [old],vS [new],dO q acc,vD (kD (true,k2)),vD (pD p),vD (.bl k2)]) (ds:=[kD (true,k2),pD p,oD (.say [new])]) (d:=.non) rfl rfl rfl (zU (true,k2) (.say [new]) (by omega) hp);refine(dR (ρ1:=[x0,vS [old],vS [new],dO q acc,vD (kD (true,k2)),vD (pD p),vD (.bl k2)]) ?_).trans ?_;·rfl
  refine(dR (ρ1:=[x0,vS [old],vS [new],dO q (cC acc (true,k2) (my p (.say [new]))),vD (kD (true,k2)),vD (pD p),vD (.bl k2)]) ?_).trans ?_
  ·clear fin f1 hl hn hp
   walk_at "run"
  exact dR f1
 |false=>
  have f1:=fin acc hn;refine(dR (ρ1:=[x0,vS [old],vS [new],dO q acc,vD (kD (false,k2)),vD (pD p),vD (.bl k2)]) ?_).trans ?_;·rfl
  refine(dR (ρ1:=[x0,vS [old],vS [new],dO q acc,vD (kD (false,k2)),vD (pD p),vD (.bl k2)]) ?_).trans ?_;·rfl
  exact dR f1
def FK(k:Ky):DJ (kN k)=kD k:=qV k.1 k.2
def Bc(m:Mp):AA (dD m)=.ok (m.map λz=>.tup [kD z.1,pD z.2]):=by
 show R.ok ((((m.map λz=>kN z.1)).zip ((m.map λz=>pD z.2))).map λz=>D.tup [DJ z.1,z.2])=_;rw[yz];unfold kvD;rw[List.map_map]
 congr 1
 refine List.map_congr_left λz _=>?_;show D.tup [DJ (kN z.1),_]=_;rw[FK]
def su{x0:Option Sl}{q:Addr}(old new:Nat):∀(m acc:Mp)(x4 x5 x6:Option Sl),(keys acc).Nodup->Len 890 m->∃y4 y5 y6,eG (xK [4,5]) (dw kq df) (m.map λz=>.tup [kD z.1,pD z.2]) [x0,vS [old],vS [new],dO q acc,x4,x5,x6] =
  .nx [x0,vS [old],vS [new],dO q (m.foldl (xU old new) acc),y4,y5,y6]
 | [],acc,x4,x5,x6,_,_=>⟨x4,x5,x6,rfl⟩
 | (k,p)::m,acc,x4,x5,x6,hn,hp=>by obtain⟨y4,y5,y6,ih⟩:=su old new m (xU old new acc (k,p)) (vD (kD k)) (vD (pD p)) (vD (.bl k.2)) (oN hn) λz hz=>hp z (List.mem_cons_of_mem _ hz);refine⟨y4,y5,y6,?_⟩;rw[List.map_cons,ij (ρ1:=[x0,vS [old],vS [new],dO q acc,vD (kD k),vD (pD p),x6]) rfl (zE old new k p hn (by have:=hp (k,p) (List.mem_cons_self ..);dsimp only at this;omega))];exact ih
def Gu(q:Addr×Unit){m:Mp}(old new:Nat)(hp:Len 890 m):cD kq df q (aC 7 [dD m,.str [old],.str [new]])=.rt (dD (C6 old new m)):=by
 obtain⟨y4,y5,y6,h⟩:=su (x0:=vD (dD m)) (q:=q.1) old new m [] none none none List.Pairwise.nil hp;show(cO kq df [vD (dD m),vS [old],vS [new],some (.obj true DC q.1 (fsD [])),none,none,none]).seq (aI (fk kq df) oNx)=_;have e:cO kq df [vD (dD m),vS [old],vS [new],some (.obj true DC q.1 (fsD [])),none,none,none]=.nx [vD (dD m),vS [old],vS [new],some (.obj true DC q.1 (fsD (C6 old new m))),y4,y5,y6]:=by
  have h2:=Bc m;unfold cO
  walk_at "run"
  rfl
 rw[e];show(qR 3 _).seq _=_;rw[zn (q:=q.1) (m:=C6 old new m) rfl];rfl
open Classical in
noncomputable def soF:List D->R D:=λds=>if ∃m,∃old new:Nat,ds=[dD m,.str [old],.str [new]]/\Len 890 m then aD (cD kq df (0,()) (aC 7 ds))else .no
def GM{m:Mp}(old new:Nat)(hp:Len 890 m):soF [dD m,.str [old],.str [new]]=.ok (dD (C6 old new m)):=by unfold soF;rw[if_pos ⟨m,old,new,rfl,hp⟩,Gu _ old new hp];rfl
def mK:∀ds:List D,ds.length=3->soF ds=.no\/∀q,aD (cD kq df q (aC 7 ds))=soF ds:=by
 intro ds _;by_cases h:∃m,∃old new:Nat,ds=[dD m,.str [old],.str [new]]/\Len 890 m;·obtain⟨m,old,new,rfl,hp⟩:=h;refine .inr λq=>?_;rw[GM old new hp,Gu q old new hp];rfl
 ·exact .inl (by unfold soF;exact if_neg h)
noncomputable def Fo(n:Nat)(old new:List Nat)(m:Mp)(c:Nat):Mp:=C6 (old.getD c 0) (new.getD c 0) (kX m n c)
noncomputable def mY(n:Nat)(old new:List Nat)(b:Nat)(m:Mp):Mp:=(List.range' b (old.length - b)).foldl (Fo n old new) m
def iS{m:Mp}{k j:Ky}{p:Pl}(h:m.lookup j≠none):(cC m k p).lookup j≠none:=by
 rw[oK];split
 ·split;·exact λz=>nomatch z
  ·split <;> exact λz=>nomatch z
 ·exact h
def nH{m:Mp}{k:Ky}{p:Pl}:(cC m k p).lookup k≠none:=by
 rw[oK,if_pos rfl];split;·exact λz=>nomatch z
 ·split <;> exact λz=>nomatch z
def mT{m:Mp}{a b j:Ky}{o:Od}(h:m.lookup j≠none):(move m a b o).lookup j≠none:=by
 unfold move;split;·exact iS h
 ·exact h
def Cm{m:Mp}{a b:Ky}{o:Od}(h:m.lookup a≠none):(move m a b o).lookup b≠none:=by
 unfold move;split;·exact nH
 ·rename_i e;exact absurd e h
def zH{old new:Nat}{acc:Mp}{z:Ky×Pl}{j:Ky}(h:acc.lookup j≠none):(xU old new acc z).lookup j≠none:=by
 unfold xU;have h1:(if z.1.1=true then cC acc (true,z.1.2) (my z.2 (.say [new]))else acc).lookup j≠none:=by
  split;·exact iS h
  ·exact h
 dsimp only;split;·exact iS h1
 ·exact h1
def Bz{old new:Nat}{m:Mp}(h:m.lookup (true,false)≠none):(C6 old new m).lookup (true,false)≠none:=by
 cases e:m.lookup (true,false)with
 |none=>exact absurd e h
 |some p=>
  have hm:=pM e;have go:∀(l:Mp)(acc:Mp),((true,false),p)∈l\/acc.lookup (true,false)≠none->(l.foldl (xU old new) acc).lookup (true,false)≠none:=by
   intro l;induction l with
   |nil=>intro acc h;rcases h with h|h;exact nomatch h;exact h
   |cons z l ih=>
    intro acc h;refine ih _ ?_;rcases h with h|h
    ·rcases List.mem_cons.1 h with h|h
     ·subst h;refine .inr ?_;unfold xU;dsimp only;rw[if_pos rfl];split;·exact iS nH
      ·exact nH
     ·exact .inl h
    ·exact .inr (zH h)
  exact go m [] (.inl hm)
structure Gd(J:Nat)(m:Mp):Prop where
 nd:(keys m).Nodup
 ne:m.lookup (true,false)≠none\/m.lookup (false,false)≠none
 len:Len J m
def Gd.nn{m:Mp}(g:Gd J m):m≠[]:=λe=>by subst e;rcases g.ne with h|h <;> exact h rfl
def xz{m:Mp}(g:Gd J m)(n c:Nat):(kX m n c).lookup (true,false)≠none:=by
 unfold kX;refine mT (mT ?_);rcases g.ne with h|h;·exact mT h
 ·exact Cm h
def Len.moves{m:Mp}(h:Len J m)(n c:Nat):Len (J+3) (kX m n c):=((h.move _ _ _).move _ _ _).move _ _ _
def Len.sov{m:Mp}(h:Len J m)(old new:Nat):Len (J+1) (C6 old new m):=
 wy (P:=λ_ p=>p.2.length<=J) h (λk p hp _=>by simp only[my,List.length_append,List.length_singleton];omega) λk p hp _=>Nat.le_succ_of_le hp
def Gd.col{m:Mp}(g:Gd J m)(n c:Nat)(old new:List Nat):Gd (J+4) (Fo n old new m c):=
 ⟨wO,.inl (Bz (xz g n c)),(g.len.moves n c).sov _ _⟩
def xB{a b:Nat}(h:a+b<=1000):eF [.int (a:Int),.int ((a+b:Nat):Int)]=.ok ((List.range' a b).map λ(i:Nat)=>D.int (i:Int)):=by
 have e:eF [.int (a:Int),.int ((a+b:Nat):Int)]=if -(2 ^ 62)<=(a:Int)/\(a:Int)<2 ^ 62/\-(2 ^ 62)<=((a+b:Nat):Int)/\((a+b:Nat):Int)<2 ^ 62 then .ok ((List.range (((a+b:Nat):Int) - (a:Int)).toNat).map λk=>D.int ((a:Int)+(k:Nat)))else .no:=by simp only[eF]
 rw[e,if_pos (by refine⟨?_,?_,?_,?_⟩ <;> omega),show(((a+b:Nat):Int) - (a:Int)).toNat=b by omega,List.range'_eq_map_range,List.map_map];refine congrArg R.ok (List.map_congr_left λk _=>?_);simp
def vH{x:List Nat}{c:Nat}(h:c<x.length):x[c]?=some (x.getD c 0):=by rw[List.getD_eq_getElem?_getD,List.getElem?_eq_getElem h];rfl
def ES{x0 x4:Option Sl}{m:Mp}(g:Gd J m)(n c:Nat){new:List Nat}(h1:c<old.length)(h2:c<new.length)(hJ:J<=880):
  lF wmF soF [x0,vI n,vS old,vS new,x4,vD (dD m),vI c]=.nx [x0,vI n,vS old,vS new,x4,vD (dD (Fo n old new m c)),vI c]:=by
 have e1:=GH n c g.nn g.nd g.len hJ;have e2:=GM (m:=kX m n c) (old.getD c 0) (new.getD c 0) ((g.len.moves n c).mono (by omega));have e3:=L0 (vH h1);have e4:=L0 (vH h2);unfold lF Fo;clear h1 h2 hJ g
 walk_at "run"
def yR{x0 x4:Option Sl}(n:Nat){old new:List Nat}(hl:new.length=old.length):∀(k b J:Nat)(m:Mp)(x6:Option Sl),b+k<=old.length->Gd J m->J+4 * k<=880->∃y6,eG (lI 6) (lF wmF soF) ((List.range' b k).map λ(i:Nat)=>D.int (i:Int)) [x0,vI n,vS old,vS new,x4,vD (dD m),x6] =
  .nx [x0,vI n,vS old,vS new,x4,vD (dD ((List.range' b k).foldl (Fo n old new) m)),y6]/\Gd (J+4 * k) ((List.range' b k).foldl (Fo n old new) m)
 | 0,b,J,m,x6,_,g,_=>⟨x6,rfl,g⟩
 |k+1,b,J,m,x6,hb,g,hJ=>by
  obtain⟨y6,ih,gg⟩:=yR (x0:=x0) (x4:=x4) n hl k (b+1) (J+4) (Fo n old new m b) (vI b) (by omega) (g.col n b old new) (by omega);refine⟨y6,?_,?_⟩;·rw[List.range'_succ,List.map_cons,ij (ρ1:=[x0,vI n,vS old,vS new,x4,vD (dD m),vI b]) rfl (ES g n b (by omega) (by omega) (by omega))];exact ih
  ·rw[List.range'_succ,List.foldl_cons,show J+4 * (k+1)=J+4+4 * k by omega];exact gg
noncomputable def swF:List D->R D:=λds=>aD (mU wmF soF (aC 7 ds))
def xb{m:Mp}(g:Gd J m)(n:Nat){new:List Nat}{b:Nat}(hl:new.length=old.length)(hb:b<=old.length)(hJ:J+4 * old.length<=880):
  swF [dD m,.int (n:Int),.str old,.str new,.int (b:Int)]=.ok (dD (mY n old new b m))/\Gd (J+4 * (old.length - b)) (mY n old new b m):=by
 obtain⟨y6,h,gg⟩:=yR (x0:=vD (dD m)) (x4:=vI b) n hl (old.length - b) b J m none (by omega) g (by omega);refine⟨?_,gg⟩;have hr:=xB (a:=b) (b:=old.length - b) (by omega);rw[show b+(old.length - b)=old.length by omega]at hr;show aD (aI _ _ [vD (dD m),vI n,vS old,vS new,vI b,none,none])=_;clear gg hJ hb hl g
 walk_at "run"
 rfl
noncomputable def AW:Pl->List Pl->Pl
 |b,[]=>b
 |b,x::xs=>if x.1<b.1 then AW x xs else AW b xs
noncomputable def FN:List Pl->Pl
 | []=>(0,[])
 |b::xs=>AW b xs
noncomputable def iC(m:Mp)(ks:List Ky):List Pl:=ks.filterMap λk=>m.lookup k
noncomputable def oP(m:Mp)(ks:List Ky):Pl:=FN (iC m ks)
def uO:∀(xs:List Pl)(b:Pl),sC (λd=>pcF [d]) (pD b) (b.1:Int) (xs.map pD)=.ok (pD (AW b xs))
 | [],b=>rfl
 |x::xs,b=>by
  rw[List.map_cons];show(match pcF [pD x]with
   |.ok (.int kx)=>if kx<(b.1:Int)then sC (λd=>pcF [d]) (pD x) kx (xs.map pD)else sC (λd=>pcF [d]) (pD b) (b.1:Int) (xs.map pD)
   |_=>.no)=.ok (pD (if x.1<b.1 then AW x xs else AW b xs));rw[Cq];dsimp only;by_cases h:x.1<b.1;·rw[if_pos (by omega),if_pos h];exact uO xs x
  ·rw[if_neg (by omega),if_neg h];exact uO xs b
def wI{xs:List Pl}(h:xs≠[]):qF (λd=>pcF [d]) (xs.map pD)=.ok (pD (FN xs)):=by
 cases xs with
 |nil=>exact absurd rfl h
 |cons b xs=>
  show(match pcF [pD b]with
   |.ok (.int kx)=>sC (λd=>pcF [d]) (pD b) kx (xs.map pD)
   |_=>.no)=_;rw[Cq];exact uO xs b
def jK:∀(xs:List Pl)(b:Pl),AW b xs∈b::xs
 | [],b=>List.mem_cons_self ..
 |x::xs,b=>by
  show(if x.1<b.1 then AW x xs else AW b xs)∈_;split;·exact List.mem_cons_of_mem _ (jK xs x)
  ·rcases List.mem_cons.1 (jK xs b)with h|h;·rw[h];exact List.mem_cons_self ..
   ·exact List.mem_cons_of_mem _ (List.mem_cons_of_mem _ h)
def zp{xs:List Pl}(h:xs≠[]):FN xs∈xs:=by
 cases xs with
 |nil=>exact absurd rfl h
 |cons b xs=>exact jK xs b
def Ab{P:Pl->Prop}{m:Mp}{ks:List Ky}(h:All (λ_=>P) m):∀p∈iC m ks,P p:=λp hp=>by obtain⟨k,_,e⟩:=List.mem_filterMap.1 hp;exact All.at h e
def gy{P:Pl->Prop}{m:Mp}{ks:List Ky}(h:All (λ_=>P) m)(hn:iC m ks≠[]):P (oP m ks):=Ab h _ (zp hn)
def lU{m:Mp}{ks:List Ky}{k:Ky}(hk:k∈ks)(h:m.lookup k≠none):iC m ks≠[]:=by
 cases e:m.lookup k with
 |none=>exact absurd e h
 |some p=>exact List.ne_nil_of_mem (List.mem_filterMap.2 ⟨k,hk,e⟩)
noncomputable def chF:List D->R D:=λds=>aD (iP pcF (aC 2 ds))
def AN{m:Mp}:∀(ks:List Ky)(a:Option Sl),fB (qP false 1 (rvz 0)) (iq 1 (rvz 0)) (ks.map kD) [a,vD (dD m)]=.ok ((iC m ks).map pD)
 | [],a=>rfl
 |k::ks,a=>by
  have ih:=AN (m:=m) ks (vD (kD k));have h3:rW [vD (kD k),vD (dD m)] 1=.ok (kvD m):=Bf rfl;have h1:=DB (neg:=false) (i:=1) (ge:=λρ=>rdV ρ 0) (ρ:=[vD (kD k),vD (dD m)]) rfl (nu k) h3;rw[nR,Option.isSome_map]at h1;show(fw (qP false 1 (rvz 0) [vD (kD k),vD (dD m)])>>=λk'=>if k'=true then fw (iq 1 (rvz 0) [vD (kD k),vD (dD m)])>>=λx=>fB (qP false 1 (rvz 0)) (iq 1 (rvz 0)) (ks.map kD) [vD (kD k),vD (dD m)]>>=λxs=>.ok (x::xs)else fB (qP false 1 (rvz 0)) (iq 1 (rvz 0)) (ks.map kD) [vD (kD k),vD (dD m)])=_;rw[h1,ih];cases e:m.lookup k with
  |none=>
   have:iC m (k::ks)=iC m ks:=by unfold iC;rw[List.filterMap_cons,e]
   rw[this];rfl
  |some p=>
   have h2:=yn (i:=1) (ge:=λρ=>rdV ρ 0) (v:=pD p) h3 rfl (nu k) (by rw[nR,e];rfl);have:iC m (k::ks)=p::iC m ks:=by unfold iC;rw[List.filterMap_cons,e]
   rw[this,h2];rfl
def Er{m:Mp}{ks:List Ky}(hn:iC m ks≠[])(hl:ks.length<=4):chF [dD m,.tup (ks.map kD)]=.ok (pD (oP m ks)):=by
 have h1:=AN (m:=m) ks none;have h2:((iC m ks).map pD).length<=sizeLine:=by
  have h3:1000<=sizeLine:=by decide
  have h4:=List.length_filterMap_le (λk=>m.lookup k) ks;rw[List.length_map];unfold iC;omega
 have h5:=wI hn;have h6:ck (fy (aJ ce (rvz 1)) [0] (qP false 1 (rvz 0)) (iq 1 (rvz 0))) [vD (dD m),vD (.tup (ks.map kD))]=.ok (.lst false ((iC m ks).map pD)):=by
  have h7:ce (.tup (ks.map kD))=.ok (ks.map kD):=rfl;have h8:gR [0] [vD (dD m),vD (.tup (ks.map kD))]=[none,vD (dD m)]:=rfl;clear h5
  walk_at "run"
 show aD (aI (cG (vh _ pcF)) oNx [vD (dD m),vD (.tup (ks.map kD))])=_;have h9:vh (ck (fy (aJ ce (rvz 1)) [0] (qP false 1 (rvz 0)) (iq 1 (rvz 0)))) pcF [vD (dD m),vD (.tup (ks.map kD))]=.ok (pD (oP m ks)):=by unfold vh;rw[h6,R.ok_bind];exact h5
 clear h6 h5 h2 h1
 walk_at "run"
def ir{n:Nat}{h:List D->R D}(e:gl ρ=.ok ds)(l:ds.length=n):aL n h gl ρ=h ds:=by unfold aL;rw[e,R.ok_bind,if_pos l]
noncomputable def allK:List Ky:=[(false,false),(true,false),(false,true),(true,true)]
noncomputable def twoK:List Ky:=[(false,false),(true,false)]
noncomputable def m0(k:Ky):Mp:=[(k,(0,[]))]
noncomputable def jw(n:Nat)(old new:List Nat):Pl:=oP (mY n old new 0 (m0 (false,false))) allK
noncomputable def kS(n:Nat)(old new:List Nat)(c:Nat):Pl:=oP (mY n old new c (m0 (true,false))) allK
noncomputable def rY(n:Nat)(old new:List Nat)(c:Nat):Pl:=oP (mY n (old.take c) (new.take c) 0 (m0 (false,false))) twoK
noncomputable def gZ(n:Nat)(old new:List Nat)(c:Nat):Pl:=((kS n old new c).1+(rY n old new c).1,(kS n old new c).2++(rY n old new c).2)
noncomputable def AU(n:Nat)(old new:List Nat)(c:Nat):Pl:=AW (gZ n old new c) [jw n old new]
def gd0:Gd 0 (m0 (false,false)):=⟨by decide,.inr (λz=>nomatch z),λz hz=>by rw[List.mem_singleton.1 hz];exact Nat.le_refl _⟩
def gd1:Gd 0 (m0 (true,false)):=⟨by decide,.inl (λz=>nomatch z),λz hz=>by rw[List.mem_singleton.1 hz];exact Nat.le_refl _⟩
def Gd.two{m:Mp}(g:Gd J m):iC m twoK≠[]:=by
 rcases g.ne with h|h;·exact lU (by decide) h
 ·exact lU (by decide) h
def Gd.all{m:Mp}(g:Gd J m):iC m allK≠[]:=by
 rcases g.ne with h|h;·exact lU (by decide) h
 ·exact lU (by decide) h
noncomputable def peF:List D->R D:=λds=>aD (cB swF chF (aC 4 ds))
def HP{h:List D->R D}{ga gc gd:Ev->R D}:aL 5 h (aa ga (aa gb (aa gc (aa gd (aa ge λ_=>.ok []))))) ρ=ga ρ>>=λx=>gb ρ>>=λy=>gc ρ>>=λz=>gd ρ>>=λw=>ge ρ>>=λv=>h [x,y,z,w,v]:=by
 unfold aL aa;cases ga ρ <;> try rfl
 simp only[aa,R.ok_bind];cases gb ρ <;> try rfl
 simp only[R.ok_bind];cases gc ρ <;> try rfl
 simp only[R.ok_bind];cases gd ρ <;> try rfl
 simp only[R.ok_bind];cases ge ρ <;> rfl
def IK(b:Bool)(ρ:Ev):gD1 (λ_=>R.ok (D.tup [D.bl b,D.bl false])) (λ_=>R.ok (D.tup [D.int 0,D.tup []])) ρ=.ok (dD (m0 (b,false))):=rfl
def JC:mkT [D.tup [D.bl false,D.bl false],D.tup [D.bl true,D.bl false],D.tup [D.bl false,D.bl true],D.tup [D.bl true,D.bl true]]=.ok (.tup (allK.map kD)):=rfl
def Lm:mkT [D.tup [D.bl false,D.bl false],D.tup [D.bl true,D.bl false]]=.ok (.tup (twoK.map kD)):=rfl
def Ej(n:Nat){new:List Nat}(hl:new.length=old.length)(hw:old.length<=40):peF [.int (n:Int),.str old,.str new]=.ok (pD (jw n old new))/\(jw n old new).2.length<=4 * old.length:=by
 obtain⟨h1,g⟩:=xb gd0 n (b:=0) hl (Nat.zero_le _) (by omega);have b:=gy (ks:=allK) (P:=λp=>p.2.length<=0+4 * (old.length - 0)) g.len g.all;refine⟨?_,by unfold jw;omega⟩;have h1:swF [_,_,_,_,.int 0]=_:=h1;have h2:=Er g.all (by decide);have k5:=@HP;have d1:=IK;have k4:=JC;show aD (aI _ _ [vI n,vS old,vS new,none])=_;unfold jw;clear b g hw hl
 walk_at "run"
noncomputable def ppF:List D->R D:=λds=>aD (cY swF chF (aC 7 ds))
def DF{x:List Nat}{c:Nat}(h:c<=x.length):Fe none (some (c:Int)) (.str x)=some (.str (x.take c)):=by show some (D.str (qH x none (some (c:Int))))=_;rw[Bb x c h]
def A7{a b:List Od}(h:a.length+b.length<=900):dh (.tup (a.map oD)) (.tup (b.map oD))=some (.tup ((a++b).map oD)):=by
 have h1:1000<=sizeLine:=by decide
 show(if _ then _ else _)=_;rw[if_pos (by simp only[List.length_map];omega),List.map_append]
def Kt(n:Nat){new:List Nat}{c:Nat}(hl:new.length=old.length)(hw:old.length<=40)(hc:c<=old.length):ppF [.int (n:Int),.str old,.str new,.int (c:Int)]=.ok (pD (gZ n old new c))/\(gZ n old new c).2.length<=4 * old.length:=by
 obtain⟨h1,g1⟩:=xb gd1 n (b:=c) hl hc (by omega);have l1:(old.take c).length=c:=by rw[List.length_take];omega
 have l2:(new.take c).length=c:=by rw[List.length_take];omega
 obtain⟨h2,g2⟩:=xb gd0 n (b:=0) (old:=old.take c) (new:=new.take c) (by omega) (Nat.zero_le _) (by omega);have b1:=gy (ks:=allK) (P:=λp=>p.2.length<=0+4 * (old.length - c)) g1.len g1.all;have b2:=gy (ks:=twoK) (P:=λp=>p.2.length<=0+4 * ((old.take c).length - 0)) g2.len g2.two;have b3:(gZ n old new c).2.length<=4 * old.length:=by unfold gZ kS rY;rw[List.length_append];rw[l1]at b2;omega
 refine⟨?_,b3⟩;have h3:_=R.ok (pD (kS n old new c)):=Er g1.all (by decide);have h4:_=R.ok (pD (rY n old new c)):=Er g2.two (by decide);have h2:swF [_,_,_,_,.int 0]=_:=h2;have h5:=DF (x:=old) hc;have h6:=DF (x:=new) (by omega:c<=new.length);have h7:=A7 (a:=(kS n old new c).2) (b:=(rY n old new c).2) (by unfold gZ at b3;rw[List.length_append]at b3;omega);have k5:=@HP;have d1:=IK;have k4:=JC;have k2:=Lm;have i0:∀p:Pl,ixD (pD p) (.int 0)=some (.int (p.1:Int)):=λ_=>rfl;have i1:∀p:Pl,ixD (pD p) (.int 1)=some (.tup (p.2.map oD)):=λ_=>rfl;have i5:mkT [.int (((kS n old new c).1:Int)+((rY n old new c).1:Int)),.tup (((kS n old new c).2++(rY n old new c).2).map oD)]=.ok (pD (gZ n old new c)):=rfl;show aD (aI _ _ [vI n,vS old,vS new,vI c,none,none,none])=_;clear b1 b2 b3 l1 l2 g1 g2 hl hw hc
 walk_at "run"
noncomputable def rpF:List D->R D:=λds=>aD (cK peF ppF pcF (aC 5 ds))
def G6(n:Nat){new:List Nat}{c:Nat}(hl:new.length=old.length)(hw:old.length<=40)(hc:c<=old.length):rpF [.int (n:Int),.str old,.str new,.int (c:Int)]=.ok (pD (AU n old new c))/\(AU n old new c).2.length<=4 * old.length:=by
 obtain⟨h1,b1⟩:=Ej n hl hw;obtain⟨h2,b2⟩:=Kt n hl hw hc;refine⟨?_,?_⟩
 ·have h3:_=R.ok (pD (AU n old new c)):=wI (xs:=[gZ n old new c,jw n old new]) (λz=>nomatch z);have hz:2<=sizeLine:=by decide
  have mn:∀(ga:Ev->R D)(ρ:Ev),vh ga pcF ρ=ga ρ>>=λd=>match d with|.lst _ xs=>qF (λd=>pcF [d]) xs|_=>.no:=λ_ _=>rfl
  show aD (aI _ _ [vI n,vS old,vS new,vI c,none])=_;clear b1 b2 hl hw hc;rw[List.map_cons,List.map_cons,List.map_nil]at h3
  walk_at "run"
 ·rcases List.mem_cons.1 (jK [jw n old new] (gZ n old new c))with h|h;·unfold AU;rw[h];exact b2
  ·unfold AU;rw[List.mem_singleton.1 h];exact b1
def qw{P:Pl->Prop}{m:Mp}{a b:Ky}{o:Od}(h:All (λ_=>P) m)(ho:∀p,P p->P (my p o)):All (λ_=>P) (move m a b o):=by
 unfold move;split;·rename_i p e;exact All.offer h (ho p (All.at h e))
 ·exact h
def wZ{P:Pl->Prop}{n b:Nat}{new:List Nat}{m:Mp}(h:All (λ_=>P) m)(hg:∀c,c<old.length->∀p,P p->P (my p (.go n c)))(hw:∀p,P p->P (my p .wipe))(hs:∀c,c<old.length->∀p,P p->P (my p (.say [new.getD c 0]))):All (λ_=>P) (mY n old new b m):=by
 refine lR (P:=All (λ_=>P)) h λa c hc ha=>?_;have hc':c<old.length:=by rw[List.mem_range'_1]at hc;omega
 exact wy (P:=λ_=>P) (qw (qw (qw ha (hg c hc')) hw) (hg c hc')) (λk p hp _=>hs c hc' p hp) λk p hp _=>hp
noncomputable def POk(p:Pl):Prop:=(∀o∈p.2,okO o=true/\qN o<=1)/\p.1=(p.2.map dm).sum
def POk.add{p:Pl}{o:Od}(h:POk p)(ho:okO o=true)(hs:qN o<=1):POk (my p o):=by
 refine⟨λx hx=>?_,?_⟩
 ·rcases List.mem_append.1 hx with hx|hx;·exact h.1 x hx
  ·rw[List.mem_singleton.1 hx];exact⟨ho,hs⟩
 ·simp only[my,List.map_append,List.sum_append,h.2];simp
def POk.zero:POk (0,[]):=⟨λ_ h=>(by cases h),rfl⟩
def Ay{x:List Nat}{c:Nat}(h:plain x=true)(hc:c<x.length):plain [x.getD c 0]=true:=by
 have:x.getD c 0∈x:=by rw[List.getD_eq_getElem?_getD,List.getElem?_eq_getElem hc];exact List.getElem_mem hc
 unfold plain at h⊢;simp only[List.all_cons,List.all_nil,Bool.and_true];exact List.all_eq_true.1 h _ this
def nO{n b:Nat}{new:List Nat}{m:Mp}(h:All (λ_=>POk) m)(hn:n<=11)(hw:old.length<=40)(hl:new.length=old.length)(hp:plain new=true):All (λ_=>POk) (mY n old new b m):=
 wZ h (λc hc p q=>q.add (by simp only[okO,Bool.and_eq_true,decide_eq_true_eq];omega) (Nat.zero_le _)) (λp q=>q.add rfl (Nat.zero_le _))
  λc hc p q=>q.add (by have:=Ay hp (by omega:c<new.length);simp only[okO,this];rfl) (Nat.le_refl _)
def yP(k:Ky):All (λ_=>POk) (m0 k):=λz hz=>by rw[List.mem_singleton.1 hz];exact POk.zero
def vV{n:Nat}{new:List Nat}(hn:n<=11)(hw:old.length<=40)(hl:new.length=old.length)(hp:plain new=true):POk (jw n old new):=
 gy (nO (yP _) hn hw hl hp) (xb gd0 n (b:=0) hl (Nat.zero_le _) (by omega)).2.all
def BP{x:List Nat}(n:Nat)(h:plain x=true):plain (x.take n)=true:=by simp only[plain,List.all_eq_true]at *;exact λc hc=>h c (List.mem_of_mem_take hc)
def zT{n c:Nat}{new:List Nat}(hn:n<=11)(hw:old.length<=40)(hl:new.length=old.length)(hp:plain new=true)(hc:c<=old.length):POk (kS n old new c):=
 gy (nO (yP _) hn hw hl hp) (xb gd1 n (b:=c) hl hc (by omega)).2.all
def Cj{n c:Nat}{new:List Nat}(hn:n<=11)(hw:old.length<=40)(hl:new.length=old.length)(hp:plain new=true)(hc:c<=old.length):POk (rY n old new c):=by
 have l1:(old.take c).length=c:=by rw[List.length_take];omega
 have l2:(new.take c).length=c:=by rw[List.length_take];omega
 exact gy (nO (yP _) hn (by omega) (by omega) (BP c hp)) (xb gd0 n (b:=0) (old:=old.take c) (new:=new.take c) (by omega) (Nat.zero_le _) (by omega)).2.two
def zb{n c:Nat}{new:List Nat}(hn:n<=11)(hw:old.length<=40)(hl:new.length=old.length)(hp:plain new=true)(hc:c<=old.length):POk (gZ n old new c):=by
 have h1:=zT hn hw hl hp hc;have h2:=Cj hn hw hl hp hc;refine⟨λo ho=>?_,?_⟩
 ·rcases List.mem_append.1 ho with ho|ho;·exact h1.1 o ho
  ·exact h2.1 o ho
 ·show _+_=_;rw[h1.2,h2.2];simp[gZ]
def EB{n c:Nat}{new:List Nat}(hn:n<=11)(hw:old.length<=40)(hl:new.length=old.length)(hp:plain new=true)(hc:c<=old.length):POk (AU n old new c):=by
 rcases List.mem_cons.1 (jK [jw n old new] (gZ n old new c))with h|h;·unfold AU;rw[h];exact zb hn hw hl hp hc
 ·unfold AU;rw[List.mem_singleton.1 h];exact vV hn hw hl hp
structure GL(s:St)(g:List (List Nat)):Prop where
 n:g.length=s.2.1.length
 l:∀x∈g,x.length=s.1/\plain x=true
def ut{s:St}{xs:List (List Nat)}(h:cZ s.2.1.length s.1 xs=true):GL s (jc s.2.1.length s.1 xs):=by
 obtain⟨h1,h2⟩:=tV h;have hp:∀n,plain (List.replicate n 32)=true:=λn=>xN n 32 (by decide);unfold jc;refine⟨by rw[List.length_append,List.length_map,List.length_replicate];omega,λx hx=>?_⟩;rcases List.mem_append.1 hx with hx|hx;·obtain⟨y,hy,rfl⟩:=List.mem_map.1 hx;have:=h2 y hy;unfold Dm;exact⟨by rw[List.length_append,List.length_replicate];omega,oJ this.1 (hp _)⟩
 ·rw[(List.mem_replicate.1 hx).2];exact⟨List.length_replicate ..,hp _⟩
def kT{s:St}{g:List (List Nat)}(h:GL s g)(hi:i<s.2.1.length):(g.getD i []).length=s.1/\plain (g.getD i [])=true:=by have:g.getD i []∈g:=qE (by rw[h.n];exact hi);exact h.l _ this
def dW{s:St}(h:GS s)(hi:i<s.2.1.length):(s.2.1.getD i []).length=s.1/\plain (s.2.1.getD i [])=true:=h.l _ (qE hi)
noncomputable def AC(s:St)(g:List (List Nat))(i:Nat):List Od:=if i=s.2.2.1 then []else (jw i (s.2.1.getD i []) (g.getD i [])).2
noncomputable def oG(s:St)(g:List (List Nat)):List Od:=(AU s.2.2.1 (s.2.1.getD s.2.2.1 []) (g.getD s.2.2.1 []) s.2.2.2).2
noncomputable def nC(s:St)(g:List (List Nat)):List Od:=oG s g++(List.range' 0 s.2.1.length).flatMap (AC s g)
def zG{s:St}{g:List (List Nat)}(h:GS s)(hg:GL s g)(hi:i<s.2.1.length):(AC s g i).length<=4 * s.1:=by
 unfold AC;split;·exact Nat.zero_le _
 ·have:=(Ej i (old:=s.2.1.getD i []) (new:=g.getD i []) (by rw[(dW h hi).1,(kT hg hi).1]) (by rw[(dW h hi).1];exact h.w2)).2
  rwa [(dW h hi).1]at this
def I8{s:St}{g:List (List Nat)}(h:GS s)(hg:GL s g)(hi:i<s.2.1.length):∀o∈AC s g i,okO o=true/\qN o<=1:=by
 unfold AC;split;·exact λo ho=>by cases ho
 ·have hm:=h.m;exact(vV (n:=i) (by omega) (by rw[(dW h hi).1];exact h.w2) (by rw[(dW h hi).1,(kT hg hi).1]) (kT hg hi).2).1
def sO{s:St}{g:List (List Nat)}(h:GS s)(hg:GL s g):(oG s g).length<=4 * s.1:=by
 have:=(G6 s.2.2.1 (old:=s.2.1.getD s.2.2.1 []) (new:=g.getD s.2.2.1 []) (c:=s.2.2.2) (by rw[(dW h h.r).1,(kT hg h.r).1]) (by rw[(dW h h.r).1];exact h.w2) (by rw[(dW h h.r).1];exact h.c)).2
 rwa [(dW h h.r).1]at this
def BM{s:St}{g:List (List Nat)}(h:GS s)(hg:GL s g):∀o∈oG s g,okO o=true/\qN o<=1:=by have hm:=h.m;have hr:=h.r;exact(EB (n:=s.2.2.1) (c:=s.2.2.2) (by omega) (by rw[(dW h h.r).1];exact h.w2) (by rw[(dW h h.r).1,(kT hg h.r).1]) (kT hg h.r).2 (by rw[(dW h h.r).1];exact h.c)).1
def yB(rows:List (List Nat)):cT 0 (rows.map .str)=(List.range' 0 rows.length).map λ(i:Nat)=>.tup [.int (i:Int),.str (rows.getD i [])]:=by
 unfold cT;rw[List.length_map,List.range_eq_range'];refine List.map_congr_left λi hi=>?_;have hi':i<rows.length:=by rw[List.mem_range'_1]at hi;omega
 rw[List.getD_eq_getElem?_getD,List.getD_eq_getElem?_getD,List.getElem?_map,List.getElem?_eq_getElem hi',Nat.zero_add];rfl
def Aw{F1 F2 F3 F4:List D->R D}{x0 x1:Option Sl}{s:St}{g:List (List Nat)}(h:GS s)(hg:GL s g):∀(k j:Nat)(acc:List Od)(x5 x6:Option Sl),j+k<=s.2.1.length->acc.length+4 * s.1 * k<=900->∃y5 y6,eG (xK [5,6]) (lH F1 F2 F3 peF F4) ((List.range' j k).map λ(i:Nat)=>.tup [.int (i:Int),.str (s.2.1.getD i [])])
  [x0,x1,vD (.lst false (g.map .str)),vD (.int (s.2.2.1:Int)),some (.own (acc.map oD)),x5,x6] =
  .nx [x0,x1,vD (.lst false (g.map .str)),vD (.int (s.2.2.1:Int)),some (.own ((acc++(List.range' j k).flatMap (AC s g)).map oD)),y5,y6]
 | 0,j,acc,x5,x6,_,_=>⟨x5,x6,by simp[Bo]⟩
 |k+1,j,acc,x5,x6,hj,hl=>by
  have hi:j<s.2.1.length:=by omega
  have b1:=zG h hg hi;rw[Nat.mul_succ]at hl;obtain⟨y5,y6,ih⟩:=Aw (F1:=F1) (F2:=F2) (F3:=F3) (F4:=F4) (x0:=x0) (x1:=x1) h hg k (j+1) (acc++AC s g j) (vI j) (vS (s.2.1.getD j [])) (by omega) (by rw[List.length_append];omega);refine⟨y5,y6,?_⟩;rw[List.range'_succ,List.map_cons,ij (ρ1:=[x0,x1,vD (.lst false (g.map .str)),vD (.int (s.2.2.1:Int)),some (.own (acc.map oD)),vI j,vS (s.2.1.getD j [])]) (ρ2:=[x0,x1,vD (.lst false (g.map .str)),vD (.int (s.2.2.1:Int)),some (.own ((acc++AC s g j).map oD)),vI j,vS (s.2.1.getD j [])]) rfl ?_,ih,List.flatMap_cons,List.append_assoc];clear ih;have e1:neF (.int (j:Int)) (.int (s.2.2.1:Int))=some (.bl (!decide (j=s.2.2.1))):=by
   rw[L9];by_cases z:j=s.2.2.1;·rw[z,beq_self_eq_true,decide_eq_true rfl]
   ·rw[decide_eq_false z,beq_eq_false_iff_ne.2 (by omega)]
  unfold lH AC;by_cases z:j=s.2.2.1
  ·rw[if_pos z,List.append_nil];rw[decide_eq_true z]at e1;clear z b1 hl hj hi
   walk_at "run"
  ·rw[if_neg z];rw[decide_eq_false z]at e1;have e2:=(Ej j (old:=s.2.1.getD j []) (new:=g.getD j []) (by rw[(dW h hi).1,(kT hg hi).1]) (by rw[(dW h hi).1];exact h.w2)).1;have e3:ixD (.lst false (g.map .str)) (.int (j:Int))=some (.str (g.getD j [])):=L7 (by rw[List.getElem?_map,List.getElem?_eq_getElem (by rw[hg.n];exact hi),List.getD_eq_getElem?_getD,List.getElem?_eq_getElem (by rw[hg.n];exact hi)];rfl);have e4:ixD (pD (jw j (s.2.1.getD j []) (g.getD j []))) (.int 1)=some (.tup ((jw j (s.2.1.getD j []) (g.getD j [])).2.map oD)):=rfl;have e5:∀(ga:Ev->R D)(ρ:Ev),E8 4 ga ρ=(ownAt ρ 4).out ρ λds=>(ga ρ).out ρ λd=>(asT d).out ρ λes=>if ds.length+es.length<=sizeLine then .nx (ρ.set 4 (some (.own (ds++es))))else .no:=λ_ _=>rfl;have e6:asT (.tup ((jw j (s.2.1.getD j []) (g.getD j [])).2.map oD))=.ok ((jw j (s.2.1.getD j []) (g.getD j [])).2.map oD):=rfl;have e7:(acc.map oD).length+((jw j (s.2.1.getD j []) (g.getD j [])).2.map oD).length<=sizeLine:=by
    have h1:1000<=sizeLine:=by decide
    unfold AC at b1;rw[if_neg z]at b1;rw[List.length_map,List.length_map];omega
   have e8:∀(a0 a1 a2 a3:Option Sl)(ds:List D)(ρ:Ev),ownAt (a0::a1::a2::a3::some (.own ds)::ρ) 4=.ok ds:=λ_ _ _ _ _ _=>rfl;rw[List.map_append];clear z b1 hl hj hi
   walk_at "run"
def wD{s:St}{g:List (List Nat)}(h:GS s)(hg:GL s g):∀(k j:Nat),j+k<=s.2.1.length->((List.range' j k).flatMap (AC s g)).length<=4 * s.1 * k
 | 0,_,_=>Nat.zero_le _
 |k+1,j,hj=>by have:=wD h hg k (j+1) (by omega);have b1:=zG h hg (i:=j) (by omega);rw[List.range'_succ,List.flatMap_cons,List.length_append,Nat.mul_succ];omega
def qZ{s:St}{g:List (List Nat)}(h:GS s)(hg:GL s g):(nC s g).length<=4 * s.1 * (s.2.1.length+1):=by have:=wD h hg s.2.1.length 0 (by omega);have b1:=sO h hg;unfold nC;rw[List.length_append,Nat.mul_succ];omega
def rF{s:St}{g:List (List Nat)}(h:GS s)(hg:GL s g):∀o∈nC s g,okO o=true/\qN o<=1:=λo ho=>by
 rcases List.mem_append.1 ho with ho|ho;·exact BM h hg o ho
 ·obtain⟨i,hi,ho⟩:=List.mem_flatMap.1 ho;exact I8 h hg (by rw[List.mem_range'_1]at hi;omega) o ho
noncomputable def leF(Co:Addr):List D->R D:=λds=>aD (mM crN frG rpF peF (shG Co) (aC 7 ds))
def K0{os:List Od}(h:∀o∈os,okO o=true/\qN o<=1)(hl:os.length<=900):shG C [.lst false (os.map oD)]=.ok (.lst false ((shO os).map oD)):=M7 (λo ho=>(h o ho).1) (by omega)
def KC{s:St}(h:GS s){xs:List (List Nat)}(hx:cZ s.2.1.length s.1 xs=true)(hb:4 * s.1 * (s.2.1.length+1)<=900)(f:Bool):leF C [sD s,.lst f (xs.map .str)]=.ok (.lst false ((shO (nC s (jc s.2.1.length s.1 xs))).map oD)):=by
 have c1:=JX h hx f;have c2:=Hs h hx f;have hg:=ut hx;generalize jc s.2.1.length s.1 xs=g at c2 hg⊢;have c3:=(G6 s.2.2.1 (old:=s.2.1.getD s.2.2.1 []) (new:=g.getD s.2.2.1 []) (c:=s.2.2.2) (by rw[(dW h h.r).1,(kT hg h.r).1]) (by rw[(dW h h.r).1];exact h.w2) (by rw[(dW h h.r).1];exact h.c)).1;have c4:=K0 (C:=C) (rF h hg) (Nat.le_trans (qZ h hg) hb);have i1:ixD (sD s) (.int 2)=some (.tup [.int (s.2.2.1:Int),.int (s.2.2.2:Int)]):=rfl;have i2:ixD (.tup [.int (s.2.2.1:Int),.int (s.2.2.2:Int)]) (.int 0)=some (.int (s.2.2.1:Int)):=rfl;have i3:ixD (.tup [.int (s.2.2.1:Int),.int (s.2.2.2:Int)]) (.int 1)=some (.int (s.2.2.2:Int)):=rfl;have i4:ixD (sD s) (.int 1)=some (.tup (s.2.1.map .str)):=rfl;have i5:ixD (.tup (s.2.1.map D.str)) (.int (s.2.2.1:Int))=some (.str (s.2.1.getD s.2.2.1 [])):=Ma (by rw[List.getElem?_map,List.getElem?_eq_getElem h.r,List.getD_eq_getElem?_getD,List.getElem?_eq_getElem h.r];rfl);have hr:=h.r;have i6:ixD (.lst false (g.map D.str)) (.int (s.2.2.1:Int))=some (.str (g.getD s.2.2.1 [])):=L7 (by rw[List.getElem?_map,List.getElem?_eq_getElem (by rw[hg.n];exact hr),List.getD_eq_getElem?_getD,List.getElem?_eq_getElem (by rw[hg.n];exact hr)];rfl);have i7:ixD (pD (AU s.2.2.1 (s.2.1.getD s.2.2.1 []) (g.getD s.2.2.1 []) s.2.2.2)) (.int 1)=some (.tup ((oG s g).map oD)):=rfl;have i8:vw (.tup (s.2.1.map .str))=.ok ((List.range' 0 s.2.1.length).map λ(i:Nat)=>.tup [.int (i:Int),.str (s.2.1.getD i [])]):=by show R.ok (cT 0 (s.2.1.map .str))=_;rw[yB]
 obtain⟨y5,y6,lp0⟩:=Aw (F1:=crN) (F2:=frG) (F3:=rpF) (F4:=shG C) (x0:=vD (sD s)) (x1:=vD (.lst f (xs.map .str))) h hg s.2.1.length 0 (oG s g) none none (by omega) (by have:=sO h hg;rw[Nat.mul_succ]at hb;omega);have lp:eG (xK [5,6]) (lH crN frG rpF peF (shG C)) ((List.range' 0 s.2.1.length).map λ(i:Nat)=>.tup [.int (i:Int),.str (s.2.1.getD i [])]) [vD (sD s),vD (.lst f (xs.map .str)),vD (.lst false (g.map .str)),vD (.int (s.2.2.1:Int)),some (.own ((oG s g).map oD)),none,none]=.nx [vD (sD s),vD (.lst f (xs.map .str)),vD (.lst false (g.map .str)),vD (.int (s.2.2.1:Int)),some (.own ((nC s g).map oD)),y5,y6]:=lp0;clear lp0;show aD (aI _ _ [vD (sD s),vD (.lst f (xs.map .str)),none,none,none,none,none])=_;clear hg hx hb hr h
 walk_at "run"
noncomputable def fN(Co:Addr):List D->R D:=λds=>aD (fT (leF Co) (coG Co) (aC 2 ds))
noncomputable def cj(s:St)(g:List (List Nat)):Nat:=((shO (nC s g)).map dm).sum
def Lh{f:Bool}{os:List Od}(h:∀o∈os,okO o=true)(hl:os.length<=1000):coG C [.lst f (os.map oD)]=.ok (.int ((os.map dm).sum:Nat)):=MA h hl
def Jx{s:St}(h:GS s){xs:List (List Nat)}(hx:cZ s.2.1.length s.1 xs=true)(hb:4 * s.1 * (s.2.1.length+1)<=900)(f:Bool):fN C [sD s,.lst f (xs.map .str)]=.ok (.int (cj s (jc s.2.1.length s.1 xs):Int)):=by
 have e1:=KC (C:=C) h hx hb f;have hg:=ut hx;have b1:=qZ h hg;have b2:=(sL (nC s (jc s.2.1.length s.1 xs)) []).1;have e2:=Lh (C:=C) (f:=false) (Kj λo ho=>(rF h hg o ho).1) (by unfold shO;simp only[List.length_nil]at b2;omega);show aD (aI _ _ [vD (sD s),vD (.lst f (xs.map .str))])=_;unfold cj;clear b1 b2 hg hb hx h
 walk_at "run"
noncomputable def fq:List Nat:=[98,114,105,110,103]
noncomputable def brS(s:St)(g:List (List Nat)):St:=(s.1,g,s.2.2)
def J1{s:St}{g:List (List Nat)}(h:GS s)(hg:GL s g):GS (brS s g):=⟨h.w1,h.w2,by show g.length<=12;rw[hg.n];exact h.m,by show s.2.2.1<g.length;rw[hg.n];exact h.r,h.c,hg.l⟩
section
variable{Cp Co:Addr}
noncomputable def iH(Co:Addr):MF:=zm λsts _ _ b c ds=>match ds with
 | [r]=>(match fN Co [b,r],frG [b,r],b with
  |.ok (.int pr),.ok (.lst false ys),.tup [w,_,pl]=>if sts.length<1000 then .ok (.int pr) (bS (sts++[st3 (.str fq) (.tup [w,.tup ys,pl]) (c+pr)]) [])else .no
  |_,_,_=>.no)
 |_=>.no
def E0:cV Cp (kg Cp dQ Ag (fN Co) frG) 4 (iH Co):=by
 refine kQ λp l tk a b c ds=>?_
 match ds with
 | []=>trivial
 |_::_::_=>simp
 | [r]=>
  dsimp only;cases h1:fN Co [b,r]with
  |no=>trivial
  |ex E=>trivial
  |ok pd=>
   cases pd with
   |int pr=>
    cases h2:frG [b,r]with
    |no=>trivial
    |ex E=>trivial
    |ok yd=>
     cases yd with
     |lst f ys=>
      cases f with
      |true=>trivial
      |false=>
       cases b with
       |tup bs=>
        match bs with
        | []=>trivial
        | [_]=>trivial
        | [_,_]=>trivial
        |_::_::_::_::_=>trivial
        | [w,y,pl]=>
         dsimp only;by_cases hl:(l++[st3 a (.tup [w,y,pl]) c]).length<1000
         ·rw[if_pos hl];dsimp only;have s2:dQ (bS (l++[st3 a (.tup [w,y,pl]) c]) tk) []=.rd (.tup [w,y,pl]):=eV _ l tk a (.tup [w,y,pl]) c [];have o0:∀m r,oH Cp (some (.obj m Cp p (bS (l++[st3 a (.tup [w,y,pl]) c]) tk))::r) 0=.ok (bS (l++[st3 a (.tup [w,y,pl]) c]) tk):=λm r=>gW rfl;have s3:Ag (bS (l++[st3 a (.tup [w,y,pl]) c]) tk) [.str fq,.tup [w,.tup ys,pl],.int pr]=.ok .non (bS (l++[st3 a (.tup [w,y,pl]) c]++[st3 (.str fq) (.tup [w,.tup ys,pl]) (c+pr)]) []):=(eV _ l tk a (.tup [w,y,pl]) c _).trans (if_pos hl);have o1:∀r fs,pS Cp (some (.obj true Cp p fs)::r) 0=.ok (p,fs):=λr fs=>iJ rfl;have wd:D.str [98,114,105,110,103]=.str fq:=rfl;have i0:ixD (.tup [w,y,pl]) (.int 0)=some w:=rfl;have i2:ixD (.tup [w,y,pl]) (.int 2)=some pl:=rfl;have t1:jL [.lst false ys]=some (.tup ys):=rfl;have mk3:∀x y z,mkT [x,y,z]=.ok (.tup [x,y,z]):=λ_ _ _=>rfl;refine⟨[some (.obj true Cp p (bS (l++[st3 a (.tup [w,y,pl]) c]++[st3 (.str fq) (.tup [w,.tup ys,pl]) (c+pr)]) [])),vD r,vD (.tup [w,y,pl]),vD (.int pr)],rfl,.inl ?_⟩;show aI _ _ [some (.obj true Cp p (bS (l++[st3 a (.tup [w,y,pl]) c]) tk)),vD r,none,none]=_;clear hl
          walk_at "run"
         ·rw[if_neg hl];trivial
       |_=>trivial
     |_=>trivial
   |_=>trivial
def Bt{s:St}(h:GS s){xs:List (List Nat)}(hx:cZ s.2.1.length s.1 xs=true)(hb:4 * s.1 * (s.2.1.length+1)<=900){f:Bool}{l tk:List D}{a:D}{c:Int}(hl:l.length<900):
  iH Co (bS (l++[st3 a (sD s) c]) tk) [.lst f (xs.map .str)]=.ok (.int (cj s (jc s.2.1.length s.1 xs):Int)) (bS (l++[st3 a (sD s) c]++[st3 (.str fq) (sD (brS s (jc s.2.1.length s.1 xs))) (c+(cj s (jc s.2.1.length s.1 xs):Int))]) []):=by
 refine(eV _ l tk a (sD s) c _).trans ?_;dsimp only;rw[Jx h hx hb f,Hs h hx f];exact if_pos (by simp;omega)
end
noncomputable def mW(aG:List D->R D):Ev->O:=(aI (ka (aL 1 aG (aa (rvz 0) nlz))) (aI (cG (ck (fy (aJ ce (g2 ixD (rvz 0) (ciz 1))) [] (λ_=>R.ok true) (im "str" jE (rvz 0) (aa (csz [32]) nlz))))) oNx))
noncomputable def zu(C:Addr):List D->R D:=λds=>aD (mW (gH C) (aC 1 ds))
noncomputable def shR(s:St):List (List Nat):=s.2.1.map λx=>dB x [32]
def DG{s:St}(h:GS s):zu C [sD s]=.ok (.lst false ((shR s).map .str)):=by
 have hl:=h.m;have e1:=gA (C:=C) h.screen;have e2:fB (λ_=>R.ok true) (im "str" jE (rvz 0) (aa (csz [32]) nlz)) (s.2.1.map .str) [none]=.ok ((shR s).map .str):=by have:=iR (gt:=λ_=>R.ok true) (ge:=im "str" jE (rvz 0) (aa (csz [32]) nlz)) (λd=>match d with|.str x=>.str (dB x [32])|d=>d) [] (s.2.1.map .str) none (λd hd=>by obtain⟨x,_,rfl⟩:=List.mem_map.1 hd;exact⟨rfl,rfl⟩);rw[this];unfold shR;rw[List.map_map,List.map_map];rfl
 have e3:ce (.tup (s.2.1.map .str))=.ok (s.2.1.map .str):=rfl;have e4:ixD (sD s) (.int 1)=some (.tup (s.2.1.map .str)):=rfl;have e5:((shR s).map D.str).length<=sizeLine:=by
  have h3:1000<=sizeLine:=by decide
  unfold shR;rw[List.length_map,List.length_map];omega
 have e6:gR [] [vD (sD s)]=[none]:=rfl;show aD (aI _ _ [vD (sD s)])=_;clear hl h
 walk_at "run"
def Dy{c:Nat}:∀x:List Nat,x.takeWhile (λd=>[c].contains d)=List.replicate (x.takeWhile (λd=>[c].contains d)).length c
 | []=>rfl
 |d::x=>by
  rw[List.takeWhile_cons];split
  ·rename_i h;have e:d=c:=by simpa using h
   rw[List.length_cons,List.replicate_succ,e,<- Dy x]
  ·rfl
def vC(x:List Nat):x=dB x [32]++List.replicate (x.length - (dB x [32]).length) 32:=by
 have h1:=List.takeWhile_append_dropWhile (p:=λd=>[32].contains d) (l:=x.reverse);have h2:=Dy (c:=32) x.reverse;have h3:x=(x.reverse.dropWhile λd=>[32].contains d).reverse++(x.reverse.takeWhile λd=>[32].contains d).reverse:=by rw[<- List.reverse_append,h1,List.reverse_reverse]
 rw[kH];have h4:(x.reverse.takeWhile λd=>[32].contains d).reverse=List.replicate (x.length - (x.reverse.dropWhile λd=>[32].contains d).reverse.length) 32:=by
  have h5:=congrArg List.length h3;rw[List.length_append,List.length_reverse (as:=List.takeWhile _ _)]at h5;rw[h2,List.reverse_replicate]
  congr 1
  omega
 rw[<- h4];exact h3
def yo{x:List Nat}(h:x.length=wd):Dm wd (dB x [32])=x:=by subst h;exact(vC x).symm
def xw{s:St}(h:GS s):jc s.2.1.length s.1 (shR s)=s.2.1:=by
 unfold jc shR;rw[List.length_map,Nat.sub_self,List.replicate_zero,List.append_nil,List.map_map]
 conv=>rhs;rw[<- List.map_id s.2.1]
 exact List.map_congr_left λx hx=>yo (h.l x hx).1
def yc{s:St}(h:GS s):cZ s.2.1.length s.1 (shR s)=true:=by unfold cZ shR;rw[List.length_map,decide_eq_true (Nat.le_refl _),Bool.true_and,List.all_eq_true];intro x hx;obtain⟨y,hy,rfl⟩:=List.mem_map.1 hx;obtain⟨h1,h2⟩:=zN (h.l y hy).2 (Nat.le_of_eq (h.l y hy).1);unfold txt;simp[h1,h2]
section
variable{g1 g2 s1 s2:Ev->O}{gt:Ev->R Bool}{ρ':Ev}
def kW{ga:Ev->R D}(h:ga ρ=.ok d)(hb:gb ρ=.ok d)(hc:cl 10 d=true):gB2 neF ga gb ρ=.ok false:=by unfold gB2 L2.g2;rw[h,hb];show(ofO (neF d d))>>=asB=_;rw[zY hc];rfl
def yW(h:gt ρ=.ok false):oIf gt s1 s2 ρ=s2 ρ:=by unfold oIf;rw[h];rfl
def tB{gu:Ev->R Bool}(h:gt ρ=.ok false):nV gt gu ρ=gu ρ:=by unfold nV;rw[h];rfl
def Jv{b:Bool}{fs:List (Nat×Fd)}(h:ρ[i]?=some (some (.obj b C p fs)))(e:F fs []=.rd d):bZ C i F ρ=.ok d:=by unfold bZ;rw[gW h];show(F fs []).read=_;rw[e];rfl
end
def EC{Cb:Addr}{l tk:List D}{x:D}{a b:D}{c:Int}(hk:tk.length<1000):jW Cb (bS (l++[x]++[st3 a b c]) tk) []=.ok a (bS (l++[x]) (tk++[st3 a b c])):=Gg (l:=l++[x]) (by simp) hk
end Q
namespace Q81
open L2 Q
open PySem (sizeLine Addr)
noncomputable def jy:Ev->O:=(cG (g2 eqF (im "str" dI (rvz 0) (aa (csz [32]) nlz)) (csz [])))
noncomputable def fL:Ev->O:=(aI jy oNx)
noncomputable def bH(ah ae gh:List D->R D):Ev->O:=(aI (eY 3 (aL 2 ae (aa (aL 2 ah (aa (rvz 0) (aa (rvz 2) nlz))) (aa (rvz 1) nlz)))) (aI (cG (gOf eI (aa (ck (fy (aJ ce (rvz 3)) [1] (gBn (aJ jU (aL 1 gh (aa (g2 ixD (g2 ixD (rvz 1) (ciz 1)) (rvz 0)) nlz)))) (rvz 0))) nlz))) oNx))
noncomputable def eK(ba bF:List D->R D):Ev->O:=(aI (ka (aL 2 ba (aa (rvz 0) (aa (rvz 1) nlz)))) (aI (eY 2 (g2 qO (gOf eI (aa (g2 ixD (rvz 0) (ciz 1)) nlz)) (ciz 1))) (aI (eY 3 (zf (aa (aJ ox (rvz 2)) (aa (g2 dh (rvz 2) (ciz 1)) nlz)))) (aI (cG (A9 (rvz 3) [0,1] (aJ mkT (aa (aL 3 bF (aa (rvz 1) (aa (rvz 2) (aa (rvz 0) nlz)))) (aa (aJ ox (gOf Bw (aa (rvz 0) nlz))) (aa (aJ ox (rvz 0)) nlz)))))) oNx))))
noncomputable def dL(ba:List D->R D):Ev->O:=(aI (ka (aL 2 ba (aa (rvz 0) (aa (rvz 1) nlz)))) (aI (cG (ck (kh 2 (xK [0,1]) (aJ vw (g2 ixD (rvz 0) (ciz 1))) [1] (gB2 eqF (rvz 1) (g2 ixD (g2 ixD (rvz 2) (ciz 1)) (rvz 0))) (rvz 0)))) oNx))
noncomputable def cw(aG:List D->R D)(aF:Addr):Ev->O:=(aI (ka (aL 1 aG (aa (rvz 0) nlz))) (aI (ka (aL 1 aG (aa (rvz 1) nlz))) (aI (oIf (nV (gB2 neF (g2 ixD (rvz 0) (ciz 0)) (g2 ixD (rvz 1) (ciz 0))) (gB2 neF (gOf eI (aa (g2 ixD (rvz 0) (ciz 1)) nlz)) (gOf eI (aa (g2 ixD (rvz 1) (ciz 1)) nlz)))) (aI (je aF (aa (csz [116,104,101,115,101,32,115,99,114,101,101,110,115,32,97,114,101,32,110,111,116,32,111,102,32,111,110,101,32,115,105,122,101]) nlz)) oNx) oNx) oNx)))
noncomputable def dg:List D->R D:=λds=>aD (fL (aC 1 ds))
def qp:∀ds:List D,ds.length=1->dg ds=.no\/aD (fL (aC 1 ds))=dg ds:=λ_ _=>.inr rfl
noncomputable def bv(aF:Addr):List D->R D:=λds=>aD (cw (gH aF) aF (aC 2 ds))
def ja:∀ds:List D,ds.length=2->bv aF ds=.no\/aD (cw (gH aF) aF (aC 2 ds))=bv aF ds:=λ_ _=>.inr rfl
noncomputable def bg(aF:Addr):List D->R D:=λds=>aD (dL (bv aF) (aC 2 ds))
def nM:∀ds:List D,ds.length=2->bg aF ds=.no\/aD (dL (bv aF) (aC 2 ds))=bg aF ds:=λ_ _=>.inr rfl
noncomputable def aV(aF:Addr):List D->R D:=λds=>aD (bH bQ (bg aF) dg (aC 4 ds))
def fY:∀ds:List D,ds.length=3->aV aF ds=.no\/aD (bH bQ (bg aF) dg (aC 4 ds))=aV aF ds:=λ_ _=>.inr rfl
noncomputable def bz(aF:Addr):List D->R D:=λds=>aD (eK (bv aF) (aV aF) (aC 4 ds))
def oe:∀ds:List D,ds.length=2->bz aF ds=.no\/aD (eK (bv aF) (aV aF) (aC 4 ds))=bz aF ds:=λ_ _=>.inr rfl
noncomputable def nA(ai aE:List D->R D)(ad ah:List D->R D)(ae ag:List D->R D):Ev->O:=(eY 1 (aL 2 ai (aa (rvz 0) (aa (ciz 10) nlz))))
noncomputable def oA(ai aE:List D->R D)(ad ah:List D->R D)(ae ag:List D->R D):Ev->O:=(eY 2 (gOf eI (aa (g2 ixD (rvz 1) (ciz 1)) nlz)))
noncomputable def oV(ai aE:List D->R D)(ad ah:List D->R D)(ae ag:List D->R D):Ev->O:=(eY 3 (aJ mkT (aa (g2 ixD (rvz 1) (ciz 0)) (aa (g2 ixD (aL 4 aE (aa (rvz 0) (aa (ciz 500) (aa (g2 ixD (rvz 1) (ciz 0)) (aa (rvz 2) nlz))))) (ciz 1)) (aa (aJ mkT (aa (ciz 0) (aa (ciz 0) nlz))) nlz)))))
noncomputable def vR(ai aE:List D->R D)(ad ah:List D->R D)(ae ag:List D->R D):Ev->O:=(oIf (gB2 gtD (aL 3 ad (aa (rvz 0) (aa (ciz 1) (aa (ciz 3) nlz)))) (ciz 0)) (aI (eY 3 (aL 2 ah (aa (rvz 1) (aa (g2 dh (g2 qO (aL 3 ad (aa (rvz 0) (aa (ciz 2) (aa (g2 qO (g2 hV (ciz 2) (rvz 2)) (ciz 1)) nlz)))) (rvz 2)) (ciz 1)) nlz)))) (aI (oIf (gB2 eqF (aL 3 ad (aa (rvz 0) (aa (ciz 3) (aa (ciz 2) nlz)))) (ciz 0)) (aI (eY 4 (aL 3 ad (aa (rvz 0) (aa (ciz 4) (aa (rvz 2) nlz))))) (aI (eY 3 (aJ mkT (aa (g2 ixD (rvz 3) (ciz 0)) (aa (g2 dh (g2 dh (gSl (g2 ixD (rvz 3) (ciz 1)) (λ_=>R.ok none) (rR (rvz 4))) (aJ mkT (aa (g2 hV (csz [35]) (g2 ixD (rvz 3) (ciz 0))) nlz))) (gSl (g2 ixD (rvz 3) (ciz 1)) (rR (g2 dh (rvz 4) (ciz 1))) (λ_=>R.ok none))) (aa (g2 ixD (rvz 3) (ciz 2)) nlz))))) oNx)) oNx) oNx)) oNx)
noncomputable def vX(ai aE:List D->R D)(ad ah:List D->R D)(ae ag:List D->R D):Ev->O:=(oIf (gB2 neF (aL 2 ae (aa (rvz 1) (aa (rvz 3) nlz))) (ck (fy (aJ ca (aa (rvz 2) nlz)) [1,3] (gB2 eqF (g2 ixD (g2 ixD (rvz 1) (ciz 1)) (rvz 0)) (g2 ixD (g2 ixD (rvz 2) (ciz 1)) (rvz 0))) (rvz 0)))) (aI (cG (λ_=>R.ok (D.bl false))) oNx) oNx)
noncomputable def wn(ai aE:List D->R D)(ad ah:List D->R D)(ae ag:List D->R D):Ev->O:=(Ck 5 (xv nlz))
noncomputable def Ie(ai aE:List D->R D)(ad ah:List D->R D)(ae ag:List D->R D):Ev->O:=(aI (eY 9 (g2 ixD (g2 ixD (rvz 3) (ciz 1)) (rvz 8))) (aI (oIf (IG (gB3 leD ltD (ciz 0) (g2 dh (rvz 8) (rvz 6)) (rvz 2)) (gB2 neF (rvz 9) (g2 hV (csz [32]) (g2 ixD (rvz 3) (ciz 0))))) (aI (eY 7 (g2 dh (rvz 7) (gOf HZ (aa (g2 eqF (g2 ixD (g2 ixD (rvz 1) (ciz 1)) (g2 dh (rvz 8) (rvz 6))) (rvz 9)) nlz)))) oNx) oNx) oNx))
noncomputable def GU(ai aE:List D->R D)(ad ah:List D->R D)(ae ag:List D->R D):Ev->O:=(aI (eY 7 (ciz 0)) (aI (wF (lI 8) (aJ ca (aa (rvz 2) nlz)) (Ie ai aE ad ah ae ag)) (aI (JW 5 (aJ mkT (aa (g2 qO (ciz 0) (rvz 7)) (aa (gOf Bw (aa (rvz 6) nlz)) (aa (rvz 6) nlz))))) oNx)))
noncomputable def sU(ai aE:List D->R D)(ad ah:List D->R D)(ae ag:List D->R D):Ev->O:=(wF (lI 6) (aJ eF (aa (g2 qO (ciz 1) (rvz 2)) (aa (rvz 2) nlz))) (GU ai aE ad ah ae ag))
noncomputable def oY(ai aE:List D->R D)(ad ah:List D->R D)(ae ag:List D->R D):Ev->O:=(oIf (nV (gB2 neF (aL 2 ag (aa (rvz 1) (aa (rvz 3) nlz))) (g2 ixD (gOf Lu (aa (rvz 5) nlz)) (ciz 2))) (gB2 neF (aL 2 ag (aa (rvz 1) (aa (rvz 1) nlz))) (ciz 0))) (aI (cG (λ_=>R.ok (D.bl false))) oNx) oNx)
noncomputable def pX(ai aE:List D->R D)(ad ah:List D->R D)(ae ag:List D->R D):Ev->O:=(cG (oq (g2 eqF (aL 2 ae (aa (rvz 1) (aa (rvz 1) nlz))) (ET (aa (rvz 2) nlz))) (g2 eqF (aL 2 ae (aa (rvz 3) (aa (rvz 1) nlz))) (aL 2 ae (aa (rvz 1) (aa (rvz 3) nlz))))))
noncomputable def mI(ai aE:List D->R D)(ad ah:List D->R D)(ae ag:List D->R D):Ev->O:=(aI (nA ai aE ad ah ae ag) (aI (oA ai aE ad ah ae ag) (aI (oV ai aE ad ah ae ag) (aI (vR ai aE ad ah ae ag) (aI (vX ai aE ad ah ae ag) (aI (wn ai aE ad ah ae ag) (aI (sU ai aE ad ah ae ag) (EW 5 (aI (oY ai aE ad ah ae ag) (aI (pX ai aE ad ah ae ag) oNx))))))))))
noncomputable def gX(M:Nat)(X:Nat->List Nat):List D:=(List.range M).map λk=>.str (X k)
noncomputable def dn(W M:Nat)(X:Nat->List Nat)(p:D):D:=.tup [.int (W:Int),.tup (gX M X),p]
noncomputable def aW(W M:Nat)(X:Nat->List Nat)(b:Int)(k:Nat):List Nat:=if 0<=(k:Int)+b/\(k:Int)+b<M then X ((k:Int)+b).toNat else List.replicate W 32
noncomputable def fA(M:Nat)(X Y:Nat->List Nat):List Nat:=(List.range M).filter λk=>X k==Y k
noncomputable def fm(ks:List Nat):List D:=ks.map λ(k:Nat)=>.int (k:Int)
def iT(M:Nat)(X:Nat->List Nat):(gX M X).length=M:=by unfold gX;simp
def qo{X:Nat->List Nat}(h:k<M):(gX M X)[k]?=some (.str (X k)):=by unfold gX;simp[h]
def uf{X:Nat->List Nat}(h:k<M):ixD (.tup (gX M X)) (.int (k:Int))=some (.str (X k)):=pj (qo h)
def BJ{W:Nat}{X:Nat->List Nat}(b:Int):dH (gX M X) W b=gX M (aW W M X b):=by
 unfold dH;rw[iT]
 conv=>rhs;unfold gX
 refine List.map_congr_left λk hk=>?_;unfold jh aW;rw[iT];by_cases h:0<=(k:Int)+b/\(k:Int)+b<M;·rw[if_pos h,if_pos h,List.getD_eq_getElem?_getD,qo (by omega)];rfl
 ·rw[if_neg h,if_neg h]
def Jm(M:Nat)(X:Nat->List Nat):vw (.tup (gX M X))=.ok ((List.range M).map λ(k:Nat)=>.tup [.int (k:Int),.str (X k)]):=by
 show R.ok (cT 0 _)=_;unfold cT;rw[iT]
 congr 1
 refine List.map_congr_left λk hk=>?_;rw[List.getD_eq_getElem?_getD,qo (List.mem_range.1 hk),Nat.zero_add];rfl
def HC(p:Nat->Bool):∀ks:List Nat,((fm ks).filter λd=>match d with|.int i=>p i.toNat|_=>false)=fm (ks.filter p)
 | []=>rfl
 |k::ks=>by
  have ih:=HC p ks;unfold fm at ih⊢;rw[List.map_cons,List.filter_cons,List.filter_cons,ih];have:(match (D.int (k:Int))with|.int i=>p i.toNat|_=>false)=p k:=by show p (k:Int).toNat=_;rw[Int.toNat_natCast]
  rw[this];cases p k <;> rfl
def Dt{gt:Ev->R Bool}(p:Nat->Bool)(tl:Ev):∀(ks:List Nat)(a:Option Sl),(∀k∈ks,gt (some (.val (.int (k:Int)))::tl)=.ok (p k)/\ge (some (.val (.int (k:Int)))::tl)=.ok (.int (k:Int)))->fB gt ge (fm ks) (a::tl)=.ok (fm (ks.filter p)):=by
 intro ks a H;rw[jQ (λd=>match d with|.int i=>p i.toNat|_=>false) (λd=>d) tl _ a (λd hd=>?_)];·rw[HC,List.map_id']
 ·unfold fm at hd;obtain⟨k,hk,rfl⟩:=List.mem_map.1 hd;obtain⟨h1,h2⟩:=H k hk;exact⟨by rw[h1];show _=R.ok (p (k:Int).toNat);rw[Int.toNat_natCast],λ_=>h2⟩
def yD{gt:Ev->R Bool}{ge:Ev->R D}(p:Nat->Bool)(X:Nat->List Nat)(tl:Ev):∀(ks:List Nat)(a b:Option Sl),(∀k∈ks,gt (some (.val (.int (k:Int)))::some (.val (.str (X k)))::tl)=.ok (p k)/\ge (some (.val (.int (k:Int)))::some (.val (.str (X k)))::tl)=.ok (.int (k:Int)))->eA (xK [0,1]) gt ge (ks.map λ(k:Nat)=>.tup [.int (k:Int),.str (X k)]) (a::b::tl)=.ok (fm (ks.filter p))
 | [],a,b,_=>rfl
 |k::ks,a,b,H=>by
  obtain⟨h1,h2⟩:=H k (List.mem_cons_self ..);have ih:=yD p X tl ks (some (.val (.int (k:Int)))) (some (.val (.str (X k)))) (λk hk=>H k (List.mem_cons_of_mem _ hk));show(fw (gt (some (.val (.int (k:Int)))::some (.val (.str (X k)))::tl))>>=λq=>if q=true then fw (ge (some (.val (.int (k:Int)))::some (.val (.str (X k)))::tl))>>=λx=>eA (xK [0,1]) gt ge (ks.map λ(k:Nat)=>.tup [.int (k:Int),.str (X k)]) (some (.val (.int (k:Int)))::some (.val (.str (X k)))::tl)>>=λxs=>.ok (x::xs)else eA (xK [0,1]) gt ge (ks.map λ(k:Nat)=>.tup [.int (k:Int),.str (X k)]) (some (.val (.int (k:Int)))::some (.val (.str (X k)))::tl))=_;rw[h1,jt,R.ok_bind,ih];cases z:p k with
  |true=>rw[if_pos rfl,h2,jt,R.ok_bind,R.ok_bind,List.filter_cons_of_pos z];rfl
  |false=>rw[if_neg Bool.false_ne_true,List.filter_cons_of_neg (by rw[z];exact Bool.false_ne_true)]
section
variable{W:Nat}{X Y:Nat->List Nat}{p q:D}
def HE(h1:screen (dn W M X p)=true)(h2:screen (dn W M Y q)=true):bv C [dn W M X p,dn W M Y q]=.ok .non:=by
 have c1:=gA (C:=C) h1;have c2:=gA (C:=C) h2;have l1:=iT M X;have l2:=iT M Y;unfold dn at *;generalize gX M X=R1 at *;generalize gX M Y=R2 at *;have x0:=Kg;have x1:=Dw;show aD (aI _ _ [some (.val _),some (.val _)])=_;have z:((W:Int)==W)=true:=by simp
 have z2:((M:Int)==M)=true:=by simp
 walk_at "run"
def Mr(m2:M<=12)(h1:screen (dn W M X p)=true)(h2:screen (dn W M Y q)=true):bg C [dn W M X p,dn W M Y q]=.ok (.lst false (fm (fA M X Y))):=by
 have c:=HE (C:=C) h1 h2;have en:=Jm M X;have cp:∀gt ge,(∀k∈List.range M,gt (some (.val (.int (k:Int)))::some (.val (.str (X k)))::[some (.val (dn W M Y q))])=.ok (X k==Y k)/\ge (some (.val (.int (k:Int)))::some (.val (.str (X k)))::[some (.val (dn W M Y q))])=.ok (.int (k:Int)))->eA (xK [0,1]) gt ge ((List.range M).map λ(k:Nat)=>.tup [.int (k:Int),.str (X k)]) [none,none,some (.val (dn W M Y q))]=.ok (fm (fA M X Y)):=λgt ge H=>yD (λk=>X k==Y k) X [some (.val (dn W M Y q))] (List.range M) none none H;have hl:(fm (fA M X Y)).length<=sizeLine:=by
  have z:12<=sizeLine:=by decide
  unfold fm fA;rw[List.length_map];have:=List.length_filter_le (λk=>X k==Y k) (List.range M);rw[List.length_range]at this;omega
 have ixB:∀k,k<M->ixD (.tup (gX M Y)) (.int (k:Int))=some (.str (Y k)):=λk h=>uf h;have x1:ixD (dn W M X p) (.int 1)=some (.tup (gX M X)):=Dw _ _ _;have y1:ixD (dn W M Y q) (.int 1)=some (.tup (gX M Y)):=Dw _ _ _;show aD (aI _ _ [some (.val _),some (.val _)])=_;have inn:∀a b:D,de 2 [1] [some (.val a),some (.val b)]=[none,none,some (.val b)]:=λ_ _=>rfl;have cc:=cp (gB2 eqF (rvz 1) (g2 ixD (g2 ixD (rvz 2) (ciz 1)) (rvz 0))) (rvz 0) (λk hk=>by
  have:=ixB k (List.mem_range.1 hk);generalize dn W M Y q=B at *;generalize gX M Y=R2 at *;constructor
  ·clear cp c en
   walk_at "run"
  ·rfl);clear cp ixB;generalize dn W M X p=A at *;generalize dn W M Y q=B at *;generalize gX M X=R1 at *;generalize gX M Y=R2 at *;generalize fm (fA M X Y)=Z at *
 walk_at "run"
end
def vZ{α:Type}{f:α->Bool}:∀{x:List α},x.all f=true->x.takeWhile f=x
 | [],_=>rfl
 |a::x,h=>by rw[List.all_cons,Bool.and_eq_true]at h;rw[List.takeWhile_cons,h.1,vZ h.2];rfl
def uY{α:Type}{f:α->Bool}:∀{x:List α},x.all f=false->(x.takeWhile f).length<x.length
 | [],h=>by simp at h
 |a::x,h=>by
  rw[List.takeWhile_cons];cases q:f a with
  |false=>simp
  |true=>rw[List.all_cons,q,Bool.true_and]at h;have:=uY h;simp;omega
def se{α:Type}{f:α->Bool}:∀{x:List α},(x.takeWhile f).all f=true
 | []=>rfl
 |a::x=>by
  rw[List.takeWhile_cons];cases q:f a with
  |false=>rfl
  |true=>simp only[if_true];rw[List.all_cons,q,se];rfl
def AK{α:Type}{f:α->Bool}:∀{x:List α},x.takeWhile f++x.drop (x.takeWhile f).length=x
 | []=>rfl
 |a::x=>by
  rw[List.takeWhile_cons];cases q:f a with
  |false=>rfl
  |true=>simp only[if_true,List.length_cons,List.drop_succ_cons,List.cons_append];rw[AK]
def gT(x:List Nat):(lh 32 x==[])=x.all (·==32):=by
 unfold lh;cases h:x.all (·==32)with
 |true=>rw[vZ h,List.drop_length,List.take_nil];rfl
 |false=>
  have e:=AK (f:=(·==32)) (x:=x);have l:=uY h;have a2:(x.drop (x.takeWhile (·==32)).length).all (·==32)=false:=by rw[<- e,List.all_append,se,Bool.true_and]at h;exact h
  have a3:=uY (f:=(·==32)) (x:=(x.drop (x.takeWhile (·==32)).length).reverse) (by rw[List.all_reverse];exact a2);rw[List.length_reverse,List.length_drop]at a3;rw[beq_eq_false_iff_ne];intro z;have z:=congrArg List.length z;rw[List.length_take,List.length_drop,List.length_nil]at z;omega
noncomputable def kf(W M:Nat)(X Y:Nat->List Nat)(b:Int):Nat:=((fA M (aW W M X b) Y).filter λk=>!(Y k).all (·==32)).length
section
variable{W:Nat}{X Y:Nat->List Nat}{p q:D}
def Et(x:List Nat):dg [.str x]=.ok (.bl (x.all (·==32))):=by
 rw[<- gT];have e:∀ρ:Ev,im "str" dI (rvz 0) (aa (csz [32]) nlz) [some (.val (.str x))]=.ok (.str (lh 32 x)):=λ_=>rfl;show aD (aI jy oNx [some (.val (.str x))])=_;unfold jy;have e':=e [];generalize im "str" dI (rvz 0) (aa (csz [32]) nlz)=g at *
 walk_at "run"
def JH(h:screen (dn W M X p)=true){b:Int}(b1 : -12<=b)(b2:b<=12):bQ [dn W M X p,.int b]=.ok (dn W M (aW W M X b) p):=by have:bQ [dn W M X p,.int b]=.ok (.tup [.int W,.tup (dH (gX M X) (W:Int).toNat b),p]):=if_pos ⟨h,b1,b2⟩;rw[this,Int.toNat_natCast,BJ];rfl
def KD(m2:M<=12)(h1:screen (dn W M X p)=true)(h2:screen (dn W M Y q)=true)(h3:∀b,screen (dn W M (aW W M X b) p)=true){b:Int}(b1 : -12<=b)(b2:b<=12):
  aV C [dn W M X p,dn W M Y q,.int b]=.ok (.int (kf W M X Y b:Nat)):=by
 have s:=JH h1 b1 b2;have al:=Mr (C:=C) m2 (h3 b) h2;have y1:ixD (dn W M Y q) (.int 1)=some (.tup (gX M Y)):=Dw _ _ _;have hk:∀k∈fA M (aW W M X b) Y,k<M:=λk h=>List.mem_range.1 (List.mem_filter.1 h).1;have cc:=Dt (gt:=gBn (aJ jU (aL 1 dg (aa (g2 ixD (g2 ixD (rvz 1) (ciz 1)) (rvz 0)) nlz)))) (ge:=λρ=>rdV ρ 0) (λk=>!(Y k).all (·==32)) [some (.val (dn W M Y q))] (fA M (aW W M X b) Y) none (λk h=>by
  have i:=uf (X:=Y) (hk k h);have bl:=Et (Y k);generalize dg=F at *;generalize dn W M Y q=B at *;generalize gX M Y=R2 at *;constructor
  ·clear al s
   walk_at "run"
  ·rfl);have hl:(fm ((fA M (aW W M X b) Y).filter λk=>!(Y k).all (·==32))).length<=sizeLine:=by
  have z:12<=sizeLine:=by decide
  unfold fm fA;rw[List.length_map];have:=List.length_filter_le (λk=>!(Y k).all (·==32)) ((List.range M).filter λk=>aW W M X b k==Y k);have:=List.length_filter_le (λk=>aW W M X b k==Y k) (List.range M);rw[List.length_range]at this;omega
 have hln:((fm ((fA M (aW W M X b) Y).filter λk=>!(Y k).all (·==32))).length:Int)=(kf W M X Y b:Nat):=by unfold fm kf;rw[List.length_map]
 show aD (aI _ _ [some (.val _),some (.val _),some (.val _),none])=_;have inn:∀a b c d:D,gR [1] [some (.val a),some (.val b),some (.val c),some (.val d)]=[none,some (.val b)]:=λ_ _ _ _=>rfl;have itl:=J3;have ll:∀f (x:List D),eI [.lst f x]=some (.int (x.length:Int)):=λ_ _=>rfl;clear hk h1 h2 h3;generalize bg C=F at *;generalize dn W M X p=A at *;generalize dn W M (aW W M X b) p=A' at *;generalize dn W M Y q=B at *;generalize gX M Y=R2 at *;generalize fm ((fA M (aW W M X b) Y).filter λk=>!(Y k).all (·==32))=Z at *;generalize fm (fA M (aW W M X b) Y)=Z' at *;generalize kf W M X Y b=cn at *;generalize (gBn (aJ jU (aL 1 dg (aa (g2 ixD (g2 ixD (rvz 1) (ciz 1)) (rvz 0)) nlz))))=gt at *
 walk_at "run"
end
noncomputable def yY(b:Int):Int:=if b<0 then -b else b
noncomputable def K81(c:Int->Int)(b:Int):D:=.tup [.int (c b),.int (-(yY b)),.int (-b)]
noncomputable def jx(M:Nat):List Int:=(List.range (2 * M - 1)).map λ(k:Nat)=>1 - (M:Int)+(k:Int)
def Bn(h:1<=M):∃bs,jx M=(1 - (M:Int))::bs:=by
 unfold jx;obtain⟨n,hn⟩:∃n,2 * M - 1=n+1:=⟨2 * M - 2,by omega⟩
 rw[hn,List.range_succ_eq_map,List.map_cons];exact⟨_,by congr 1;simp⟩
def me{b:Int}(h:b∈jx M): -(M:Int)<b/\b<M:=by unfold jx at h;obtain⟨k,hk,rfl⟩:=List.mem_map.1 h;have:=List.mem_range.1 hk;omega
def Eg(M:Nat):(jx M).length=2 * M - 1:=by unfold jx;simp
def GI(m1:1<=M)(m2:M<=12):eF [.int (1 - (M:Int)),.int (M:Int)]=.ok ((jx M).map D.int):=by have:eF [.int (1 - (M:Int)),.int (M:Int)]=.ok ((List.range ((M:Int) - (1 - (M:Int))).toNat).map λ(k:Nat)=>D.int (1 - (M:Int)+(k:Nat))):=if_pos (by omega);rw[this,show((M:Int) - (1 - (M:Int))).toNat=2 * M - 1 by omega];unfold jx;rw[List.map_map];rfl
def NM(m1:1<=M)(m2:M<=12):vy [.int (-((M:Int) - 1)),.int ((M:Int) - 1+1)]=.ok (.lst false ((jx M).map D.int)):=by have e:=GI m1 m2;unfold vy;rw[show -((M:Int) - 1)=1 - M by omega,show(M:Int) - 1+1=M by omega,e,R.ok_bind,if_pos (by rw[List.length_map,Eg];omega)]
section
variable{W:Nat}{X Y:Nat->List Nat}{p q:D}
noncomputable def wX(C:Addr)(A B:D)(b:D):R D:=(aJ mkT (aa (aL 3 (aV C) (aa (rvz 1) (aa (rvz 2) (aa (rvz 0) nlz)))) (aa (aJ ox (gOf Bw (aa (rvz 0) nlz))) (aa (aJ ox (rvz 0)) nlz)))) [some (.val b),some (.val A),some (.val B)]
def Nc(m1:1<=M)(m2:M<=12)(h1:screen (dn W M X p)=true)(h2:screen (dn W M Y q)=true)(bs:List Int)(hb:jx M=(1 - (M:Int))::bs):
  bz C [dn W M X p,dn W M Y q]=lA (wX C (dn W M X p) (dn W M Y q)) (.int (1 - (M:Int))) (bs.map D.int):=by
 have c:=HE (C:=C) h1 h2;have lr:=NM m1 m2;rw[hb,List.map_cons]at lr;have x1:ixD (dn W M X p) (.int 1)=some (.tup (gX M X)):=Dw _ _ _;have ll:eI [.tup (gX M X)]=some (.int (M:Int)):=by have:eI [.tup (gX M X)]=some (.int ((gX M X).length:Int)):=rfl;rw[this,iT]
 have ne:=ng;have mx:∀(A B m:D)(xs:List D),A9 (rvz 3) [0,1] (aJ mkT (aa (aL 3 (aV C) (aa (rvz 1) (aa (rvz 2) (aa (rvz 0) nlz)))) (aa (aJ ox (gOf Bw (aa (rvz 0) nlz))) (aa (aJ ox (rvz 0)) nlz)))) [some (.val A),some (.val B),some (.val m),some (.val (.lst false (.int (1 - (M:Int))::xs)))]=lA (wX C A B) (.int (1 - (M:Int))) xs:=λ_ _ _ _=>rfl;show aD (aI _ _ [some (.val _),some (.val _),none,none])=_;have bo:∀(m:R D)(ρ:Ev),aD ((m.out ρ λd=>O.rt d).seq oNx)=(match m with|.ok d=>R.ok d|.ex C=>.ex C|.no=>.no):=λm ρ=>by cases m <;> rfl
 have al:∀(gl:Ev->R (List D))(ρ:Ev),zf gl ρ=gl ρ>>=vy:=λ_ _=>rfl;clear h1 h2;generalize A9 (rvz 3) [0,1] (aJ mkT (aa (aL 3 (aV C) (aa (rvz 1) (aa (rvz 2) (aa (rvz 0) nlz)))) (aa (aJ ox (gOf Bw (aa (rvz 0) nlz))) (aa (aJ ox (rvz 0)) nlz))))=gM at *;generalize dn W M X p=A at *;generalize dn W M Y q=B at *;generalize gX M X=R1 at *;generalize bv C=F at *;generalize hk:lA (wX C A B) (.int (1 - (M:Int))) (bs.map D.int)=mm;have mx':=mx A B (.int ((M:Int) - 1)) (bs.map D.int);rw[hk]at mx';clear mx hk
 walk_at "run"
 cases mm <;> rfl
def Cf(m2:M<=12)(h1:screen (dn W M X p)=true)(h2:screen (dn W M Y q)=true)(h3:∀b,screen (dn W M (aW W M X b) p)=true):∀b∈jx M,wX C (dn W M X p) (dn W M Y q) (.int b)=.ok (K81 (λb=>(kf W M X Y b:Nat)) b):=by
 intro b hb;obtain⟨b1,b2⟩:=me hb;have a:=KD (C:=C) m2 h1 h2 h3 (b:=b) (by omega) (by omega);have ab:Bw [.int b]=some (.int (yY b)):=rfl;have kb:K81 (λb=>(kf W M X Y b:Nat)) b=.tup [.int ((kf W M X Y b:Nat):Int),.int (-(yY b)),.int (-b)]:=rfl;have ne:=ng;have mk:=t3;rw[kb];unfold wX;clear h1 h2 h3;generalize aV C=F at *;generalize dn W M X p=A at *;generalize dn W M Y q=B at *;generalize kf W M X Y b=cn at *
 walk_at "run"
end
end Q81
namespace Q99
open L2 Q Q81
open PySem (sizeLine Addr)
noncomputable def nA(aB:Addr)(ar am:MF)(au av:MF)(ax aA az:MF)(ai ad:List D->R D)(ah ag:List D->R D)(ae aQ ao:List D->R D):Ev->O:=(eY 1 (aL 2 ai (aa (rvz 0) (aa (ciz 10) nlz))))
noncomputable def oA(aB:Addr)(ar am:MF)(au av:MF)(ax aA az:MF)(ai ad:List D->R D)(ah ag:List D->R D)(ae aQ ao:List D->R D):Ev->O:=(eY 2 (gOf eI (aa (g2 ixD (rvz 1) (ciz 1)) nlz)))
noncomputable def oV(aB:Addr)(ar am:MF)(au av:MF)(ax aA az:MF)(ai ad:List D->R D)(ah ag:List D->R D)(ae aQ ao:List D->R D):Ev->O:=(eY 3 (g2 dh (g2 qO (aL 3 ad (aa (rvz 0) (aa (ciz 1) (aa (g2 qO (g2 hV (ciz 2) (rvz 2)) (ciz 1)) nlz)))) (rvz 2)) (ciz 1)))
noncomputable def vR(aB:Addr)(ar am:MF)(au av:MF)(ax aA az:MF)(ai ad:List D->R D)(ah ag:List D->R D)(ae aQ ao:List D->R D):Ev->O:=(eY 6 (aL 2 ag (aa (rvz 1) (aa (rvz 4) nlz))))
noncomputable def vX(aB:Addr)(ar am:MF)(au av:MF)(ax aA az:MF)(ai ad:List D->R D)(ah ag:List D->R D)(ae aQ ao:List D->R D):Ev->O:=(rh aB 5 1 ar (aa (rvz 6) nlz))
noncomputable def wn(aB:Addr)(ar am:MF)(au av:MF)(ax aA az:MF)(ai ad:List D->R D)(ah ag:List D->R D)(ae aQ ao:List D->R D):Ev->O:=(oIf (nV (gB2 neF (bZ aB 5 am) (aL 2 ah (aa (rvz 1) (aa (rvz 6) nlz)))) (nV (gB2 neF (bZ aB 5 au) (ciz 0)) (gB2 neF (bZ aB 5 av) (aJ mkT (aa (ciz 1) (aa (ciz 0) nlz)))))) (aI (cG (λ_=>R.ok (D.bl false))) oNx) oNx)
noncomputable def Ap(aB:Addr)(ar am:MF)(au av:MF)(ax aA az:MF)(ai ad:List D->R D)(ah ag:List D->R D)(ae aQ ao:List D->R D):Ev->O:=(Ck 7 (fy (aJ ce (aL 2 ae (aa (bZ aB 5 am) (aa (rvz 4) nlz)))) [4] (gB2 neF (im "str" dI (g2 ixD (g2 ixD (rvz 1) (ciz 1)) (rvz 0)) (aa (csz [32]) nlz)) (csz [])) (rvz 0)))
noncomputable def yC(aB:Addr)(ar am:MF)(au av:MF)(ax aA az:MF)(ai ad:List D->R D)(ah ag:List D->R D)(ae aQ ao:List D->R D):Ev->O:=(oIf (gB2 neF (gOf eI (aa (rvz 7) nlz)) (gOf eI (aa (ck (fy (aJ ce (g2 ixD (rvz 4) (ciz 1))) [] (gB2 neF (im "str" dI (rvz 0) (aa (csz [32]) nlz)) (csz [])) (rvz 0))) nlz))) (aI (cG (λ_=>R.ok (D.bl false))) oNx) oNx)
noncomputable def sU(aB:Addr)(ar am:MF)(au av:MF)(ax aA az:MF)(ai ad:List D->R D)(ah ag:List D->R D)(ae aQ ao:List D->R D):Ev->O:=(BI 8 (iZ aB 5 1 ax (aa (aL 1 aQ (aa (rvz 4) nlz)) nlz)))
noncomputable def oY(aB:Addr)(ar am:MF)(au av:MF)(ax aA az:MF)(ai ad:List D->R D)(ah ag:List D->R D)(ae aQ ao:List D->R D):Ev->O:=(oIf (nV (gB2 neF (g2 ixD (bZ aB 5 am) (ciz 1)) (g2 ixD (rvz 4) (ciz 1))) (nV (gB2 neF (bZ aB 5 au) (rvz 8)) (gB2 neF (rvz 8) (aL 2 ao (aa (aL 2 ah (aa (rvz 1) (aa (rvz 6) nlz))) (aa (aL 1 aQ (aa (rvz 4) nlz)) nlz)))))) (aI (cG (λ_=>R.ok (D.bl false))) oNx) oNx)
noncomputable def pX(aB:Addr)(ar am:MF)(au av:MF)(ax aA az:MF)(ai ad:List D->R D)(ah ag:List D->R D)(ae aQ ao:List D->R D):Ev->O:=(rh aB 5 1 ar (aa (rvz 2) nlz))
noncomputable def Ak(aB:Addr)(ar am:MF)(au av:MF)(ax aA az:MF)(ai ad:List D->R D)(ah ag:List D->R D)(ae aQ ao:List D->R D):Ev->O:=(oIf (nV (gB2 neF (aL 1 aQ (aa (bZ aB 5 am) nlz)) (g2 hV (ck (xv (aa (csz []) nlz))) (rvz 2))) (gB2 neF (bZ aB 5 au) (rvz 8))) (aI (cG (λ_=>R.ok (D.bl false))) oNx) oNx)
noncomputable def Ad(aB:Addr)(ar am:MF)(au av:MF)(ax aA az:MF)(ai ad:List D->R D)(ah ag:List D->R D)(ae aQ ao:List D->R D):Ev->O:=(aI (rQ aB 5 aA) oNx)
noncomputable def qm(aB:Addr)(ar am:MF)(au av:MF)(ax aA az:MF)(ai ad:List D->R D)(ah ag:List D->R D)(ae aQ ao:List D->R D):Ev->O:=(wF (lI 9) (aJ ca (aa (ciz 3) nlz)) (Ad aB ar am au av ax aA az ai ad ah ag ae aQ ao))
noncomputable def qD(aB:Addr)(ar am:MF)(au av:MF)(ax aA az:MF)(ai ad:List D->R D)(ah ag:List D->R D)(ae aQ ao:List D->R D):Ev->O:=(cG (oq (g2 eqF (bZ aB 5 am) (rvz 1)) (g2 eqF (bZ aB 5 au) (ciz 0))))
noncomputable def ur(aB:Addr)(ar am:MF)(au av:MF)(ax aA az:MF)(ai ad:List D->R D)(ah ag:List D->R D)(ae aQ ao:List D->R D):Ev->O:=(aI (vR aB ar am au av ax aA az ai ad ah ag ae aQ ao) (aI (vX aB ar am au av ax aA az ai ad ah ag ae aQ ao) (aI (wn aB ar am au av ax aA az ai ad ah ag ae aQ ao) (aI (Ap aB ar am au av ax aA az ai ad ah ag ae aQ ao) (EW 7 (aI (yC aB ar am au av ax aA az ai ad ah ag ae aQ ao) (aI (sU aB ar am au av ax aA az ai ad ah ag ae aQ ao) (aI (oY aB ar am au av ax aA az ai ad ah ag ae aQ ao) (aI (pX aB ar am au av ax aA az ai ad ah ag ae aQ ao) (aI (Ak aB ar am au av ax aA az ai ad ah ag ae aQ ao) (aI (qm aB ar am au av ax aA az ai ad ah ag ae aQ ao) (aI (qD aB ar am au av ax aA az ai ad ah ag ae aQ ao) oNx))))))))))))
noncomputable def mI(aB:Addr)(ar am:MF)(au av:MF)(ax aA az:MF)(ai ad:List D->R D)(ah ag:List D->R D)(ae aQ ao:List D->R D):Addr×Unit->Ev->O:=(zk (nA aB ar am au av ax aA az ai ad ah ag ae aQ ao) (zk (oA aB ar am au av ax aA az ai ad ah ag ae aQ ao) (zk (oV aB ar am au av ax aA az ai ad ah ag ae aQ ao) (Av aB 4 5 az 1 (aL 2 ah (aa (rvz 1) (aa (rvz 3) nlz))) (aa (rvz 1) nlz) (yN (ur aB ar am au av ax aA az ai ad ah ag ae aQ ao))))))
noncomputable def X99(s:Q.St)(k:Nat):List Nat:=s.2.1.getD k []
noncomputable def P99(s:Q.St):D:=.tup [.int (s.2.2.1:Int),.int (s.2.2.2:Int)]
def GT(rows:List (List Nat)):rows.map D.str=gX rows.length λk=>rows.getD k []:=by
 unfold gX;refine List.ext_getElem? λi=>?_;rw[List.getElem?_map,List.getElem?_map];by_cases h:i<rows.length;·rw[List.getElem?_eq_getElem h,List.getElem?_range h];show _=some (D.str (rows.getD i []));rw[List.getD_eq_getElem?_getD,List.getElem?_eq_getElem h];rfl
 ·rw[List.getElem?_eq_none (by omega),List.getElem?_eq_none (by rw[List.length_range];omega)];rfl
def Mg(s:Q.St):sD s=dn s.1 s.2.1.length (X99 s) (P99 s):=by show D.tup [.int (s.1:Int),.tup (s.2.1.map .str),_]=D.tup [.int (s.1:Int),.tup (gX s.2.1.length (X99 s)),P99 s];rw[GT];rfl
def D5(s:Q.St)(b:Int):sD (stS s b)=dn s.1 s.2.1.length (aW s.1 s.2.1.length (X99 s) b) (P99 s):=by show D.tup [.int (s.1:Int),.tup (((List.range s.2.1.length).map _).map .str),_]=D.tup [.int (s.1:Int),.tup (gX s.2.1.length _),P99 s];rw[List.map_map];rfl
def yI(s:Q.St)(b:Int):(stS s b).2.1.length=s.2.1.length:=by simp only[stS,List.length_map,List.length_range]
def Ny{a b:Int}{xs ys:List Int}(h:hZ (a::xs) (b::ys)=true):b<=a:=by
 unfold hZ at h;split at h;·omega
 ·have:=of_decide_eq_true h;omega
def Mv{a b:Int}{xs ys:List Int}(h:hZ (a::xs) (b::ys)=false):a<=b:=by
 unfold hZ at h;split at h;·omega
 ·have:=of_decide_eq_false h;omega
def uU{key:D->R D}{c:Int->Int}:∀(bs:List Int)(b:Int),(∀x∈bs,key (.int x)=.ok (K81 c x))->∃d∈b::bs,oz key (.int b) [c b,-(yY b),-b] (bs.map D.int)=.ok (.int d)/\∀x∈b::bs,c x<=c d
 | [],b,_=>⟨b,List.mem_cons_self ..,rfl,λx hx=>by rw[List.mem_singleton.1 hx];exact Int.le_refl _⟩
 |x::bs,b,h=>by
  have hx:=h x (List.mem_cons_self ..);have m1:oz key (.int b) [c b,-(yY b),-b] ((x::bs).map D.int)=if hZ [c x,-(yY x),-x] [c b,-(yY b),-b]then oz key (.int x) [c x,-(yY x),-x] (bs.map D.int)else oz key (.int b) [c b,-(yY b),-b] (bs.map D.int):=by rw[List.map_cons,oz,hx];rfl
  rw[m1];cases e:hZ [c x,-(yY x),-x] [c b,-(yY b),-b]with
  |true=>
   obtain⟨d,hd,e1,e2⟩:=uU bs x λy hy=>h y (List.mem_cons_of_mem _ hy);refine⟨d,List.mem_cons_of_mem _ hd,e1,λy hy=>?_⟩;rcases List.mem_cons.1 hy with hy|hy;·rw[hy];exact Int.le_trans (Ny e) (e2 x (List.mem_cons_self ..))
   ·exact e2 y hy
  |false=>
   obtain⟨d,hd,e1,e2⟩:=uU bs b λy hy=>h y (List.mem_cons_of_mem _ hy);refine⟨d,?_,e1,λy hy=>?_⟩
   ·rcases List.mem_cons.1 hd with hd|hd;·rw[hd];exact List.mem_cons_self ..
    ·exact List.mem_cons_of_mem _ (List.mem_cons_of_mem _ hd)
   ·rcases List.mem_cons.1 hy with hy|hy;·rw[hy];exact e2 b (List.mem_cons_self ..)
    ·rcases List.mem_cons.1 hy with hy|hy;·rw[hy];exact Int.le_trans (Mv e) (e2 b (List.mem_cons_self ..))
     ·exact e2 y (List.mem_cons_of_mem _ hy)
def IU{c:Int->Int}(bs:List Int)(b:Int)(h:∀x∈b::bs,key (.int x)=.ok (K81 c x)):∃d∈b::bs,lA key (.int b) (bs.map D.int)=.ok (.int d)/\∀x∈b::bs,c x<=c d:=by obtain⟨d,hd,e1,e2⟩:=uU (key:=key) (c:=c) bs b λx hx=>h x (List.mem_cons_of_mem _ hx);refine⟨d,hd,?_,e2⟩;unfold lA;rw[h b (List.mem_cons_self ..)];exact e1
noncomputable def zq(M:Nat)(Y:Nat->List Nat):Nat:=((List.range M).filter λk=>!(Y k).all (·==32)).length
def B7(W M:Nat)(X Y:Nat->List Nat)(b:Int):kf W M X Y b<=zq M Y:=by unfold kf zq fA;exact((List.filter_sublist (p:=λk=>aW W M X b k==Y k) (l:=List.range M)).filter _).length_le
def BL(W M:Nat)(X:Nat->List Nat)(b:Int):kf W M X (aW W M X b) b=zq M (aW W M X b):=by
 unfold kf zq fA
 congr 2
 exact List.filter_eq_self.2 λk _=>by rw[beq_self_eq_true]
def GE{s:Q.St}(h:GS s){b:Int}(hb:b∈jx s.2.1.length):∃d:Int,bz C [sD s,sD (stS s b)]=.ok (.int d)/\d∈jx s.2.1.length/\kf s.1 s.2.1.length (X99 s) (aW s.1 s.2.1.length (X99 s) b) d=zq s.2.1.length (aW s.1 s.2.1.length (X99 s) b):=by
 have hm:=h.m;have m1:1<=s.2.1.length:=by have:=h.r;omega
 obtain⟨bs,hbs⟩:=Bn m1;have g1:screen (dn s.1 s.2.1.length (X99 s) (P99 s))=true:=by rw[<- Mg];exact h.screen
 have g3:∀d,screen (dn s.1 s.2.1.length (aW s.1 s.2.1.length (X99 s) d) (P99 s))=true:=λd=>by rw[<- D5];exact(wH h d).screen
 have k1:=Cf (C:=C) hm g1 (g3 b) g3;rw[hbs]at k1;obtain⟨d,hd,e1,e2⟩:=IU (key:=wX C (dn s.1 s.2.1.length (X99 s) (P99 s)) (dn s.1 s.2.1.length (aW s.1 s.2.1.length (X99 s) b) (P99 s))) (c:=λd=>(kf s.1 s.2.1.length (X99 s) (aW s.1 s.2.1.length (X99 s) b) d:Nat)) bs _ k1;refine⟨d,?_,by rw[hbs];exact hd,Nat.le_antisymm (B7 ..) ?_⟩;·rw[Mg,D5,Nc (C:=C) m1 hm g1 (g3 b) bs hbs];exact e1
 ·have:=e2 b (by rw[<- hbs];exact hb);rw[BL]at this;omega
section
variable{W:Nat}{X Y:Nat->List Nat}{p q:D}
def HN(m2:M<=12):fB (gB2 neF (im "str" dI (g2 ixD (g2 ixD (rvz 1) (ciz 1)) (rvz 0)) (aa (csz [32]) nlz)) (csz [])) (rvz 0) (fm (fA M X Y)) [none,vD (dn W M Y q)]=.ok (fm ((fA M X Y).filter λk=>!(Y k).all (·==32))):=by
 have hk:∀k∈fA M X Y,k<M:=λk h=>List.mem_range.1 (List.mem_filter.1 h).1;refine Dt (λk=>!(Y k).all (·==32)) [vD (dn W M Y q)] (fA M X Y) none λk h=>⟨?_,rfl⟩
 have i:=uf (X:=Y) (hk k h);have y1:ixD (dn W M Y q) (.int 1)=some (.tup (gX M Y)):=Dw _ _ _;have kd:nG "str" (.str (Y k))=true:=rfl;have st:dI (.str (Y k)) [.str [32]]=some (.str (lh 32 (Y k))):=rfl;have bl:=gT (Y k);rw[<- bl];generalize dn W M Y q=B at *;generalize gX M Y=R2 at *;clear bl
 walk_at "run"
def KK(M:Nat)(Y:Nat->List Nat):fB (gB2 neF (im "str" dI (rvz 0) (aa (csz [32]) nlz)) (csz [])) (rvz 0) (gX M Y) [none]=.ok (((List.range M).filter λk=>!(Y k).all (·==32)).map λk=>.str (Y k)):=by
 have H:=jQ (gt:=gB2 neF (im "str" dI (rvz 0) (aa (csz [32]) nlz)) (csz [])) (ge:=λρ=>rdV ρ 0) (λd=>match d with|.str x=>!x.all (·==32)|_=>false) (λd=>d) [] (gX M Y) none (λd hd=>by
  unfold gX at hd;obtain⟨k,_,rfl⟩:=List.mem_map.1 hd;refine⟨?_,λ_=>rfl⟩;have kd:nG "str" (.str (Y k))=true:=rfl;have st:dI (.str (Y k)) [.str [32]]=some (.str (lh 32 (Y k))):=rfl;have bl:=gT (Y k);dsimp only;rw[<- bl];clear bl hd
  walk_at "run");rw[H,List.map_id'];unfold gX;rw[List.filter_map];rfl
end
def rl{s:Q.St}(h:GS s){z:Int}(h1 : -12<=z)(h2:z<=12){l tk:List D}{a:D}{c:Int}(hl:l.length<900):eB (bS (l++[st3 a (sD s) c]) tk) [.int z]=.ok .non (bS (l++[st3 a (sD s) c]++[st3 (.str bi) (sD (stS s z)) (c+0)]) []):=by unfold eB;rw[eV];dsimp only;rw[nL h h1 h2];exact if_pos (by simp;omega)
def wL{n:Nat}{fs:List (Nat×Fd)}(ho:ρ[i]?=some (some (.obj true C p fs)))(ha:gl ρ=.ok ds)(hl:ds.length=n)(hF:F fs ds=.ok d fs'):rh C i n F gl ρ=.nx (ρ.set i (some (.obj true C p fs'))):=by unfold rh;rw[iJ ho,R.ok_out,ha,R.ok_out,if_pos hl];dsimp only;rw[hF];rfl
def BT{fs:List (Nat×Fd)}(ho:ρ[i]?=some (some (.obj true C p fs)))(hF:F fs []=.ok d fs'):rQ C i F ρ=.nx (ρ.set i (some (.obj true C p fs'))):=by unfold rQ;rw[iJ ho,R.ok_out];dsimp only;rw[hF];rfl
def ud(n:Nat):dB (List.replicate n 32) [32]=[]:=by
 rw[kH,List.reverse_replicate];induction n with
 |zero=>rfl
 |succ n ih=>rw[List.replicate_succ,List.dropWhile_cons];exact ih
def Lb(s:Q.St):shR (stS s (s.2.1.length:Int))=List.replicate s.2.1.length []:=by unfold shR stS;rw[List.map_map];refine List.eq_replicate_iff.2 ⟨by rw[List.length_map,List.length_range],λx hx=>?_⟩;obtain⟨k,_,rfl⟩:=List.mem_map.1 hx;show dB (if _ then _ else _) [32]=[];rw[if_neg (by omega),ud]
def EM(n:Nat)(h:n<=12):hV (.lst false [.str []]) (.int (n:Int))=some (.lst false ((List.replicate n ([]:List Nat)).map .str)):=by
 match n,h with
 | 0,_=>rfl
 | 1,_=>rfl
 | 2,_=>rfl
 | 3,_=>rfl
 | 4,_=>rfl
 | 5,_=>rfl
 | 6,_=>rfl
 | 7,_=>rfl
 | 8,_=>rfl
 | 9,_=>rfl
 | 10,_=>rfl
 | 11,_=>rfl
 | 12,_=>rfl
def Ew(xs:List (List Nat)):cl 10 (.lst false (xs.map .str))=true:=by show List.all _ (cl 9)=true;rw[List.all_eq_true];intro x hx;obtain⟨t,_,rfl⟩:=List.mem_map.1 hx;rfl
def Fu(xs:List (List Nat)):cl 10 (.tup (xs.map .str))=true:=by show List.all _ (cl 9)=true;rw[List.all_eq_true];intro x hx;obtain⟨t,_,rfl⟩:=List.mem_map.1 hx;rfl
theorem LL{Cs Co Cb:Addr}(ns:List Int)(fz:Bool)(q:Addr×Unit):
  aD (mI aB eB dQ ff fb (iH Co) (jW Cb) (jV Cs) lw eS bQ (bz Cs) (bg Cs) (zu Cs) (fN Co) q (aC 10 [.lst fz (ns.map .int)]))=.ok (.bl true):=by
 obtain⟨s,h,e0,e1,e2⟩:=IJ ns 10;have w2:=(pR ns 10).2.1;have m2:=(qe ns 10).2.1;have m1:1<=s.2.1.length:=by have:=h.r;omega
 have a1:lw [.lst fz (ns.map .int),.int 10]=.ok (sD s):=by rw[<- e0];exact yp (a:=10)
 have pr:=cU ns 1 (m:=2 * (s.2.1.length:Int) - 1) (by omega);have pk:eS [.lst fz (ns.map .int),.int 1,.int (2 * (s.2.1.length:Int) - 1)]=.ok (.int (ib ns 1 (2 * (s.2.1.length:Int) - 1))):=dS (n:=1) (by omega);generalize ib ns 1 (2 * (s.2.1.length:Int) - 1)=pz at *;obtain⟨b,hb⟩:∃b,b=pz - (s.2.1.length:Int)+1:=⟨_,rfl⟩
 have hbm:b∈jx s.2.1.length:=by unfold jx;exact List.mem_map.2 ⟨pz.toNat,List.mem_range.2 (by omega),by omega⟩
 obtain⟨d,t1,t2,t3⟩:=GE (C:=Cs) h hbm;have rb:=me hbm;have rd:=me t2;have gt:=wH h b;have gu:=wH h d;have lt:=yI s b;have lu:=yI s d;have sb:=nL h (z:=b) (by omega) (by omega);have sd:=nL h (z:=d) (by omega) (by omega);have al:=Mr (C:=Cs) (W:=s.1) (M:=s.2.1.length) (X:=aW s.1 s.2.1.length (X99 s) d) (Y:=aW s.1 s.2.1.length (X99 s) b) (p:=P99 s) (q:=P99 s) (by omega) (by rw[<- D5];exact gu.screen) (by rw[<- D5];exact gt.screen);have kp:=HN (W:=s.1) (M:=s.2.1.length) (X:=aW s.1 s.2.1.length (X99 s) d) (Y:=aW s.1 s.2.1.length (X99 s) b) (q:=P99 s) (by omega);have aw:=KK s.2.1.length (aW s.1 s.2.1.length (X99 s) b);rw[<- D5,<- D5]at al;rw[<- D5]at kp;have hbn:4 * (stS s d).1 * ((stS s d).2.1.length+1)<=900:=by rw[lu];exact Nat.le_trans (Nat.mul_le_mul (Nat.mul_le_mul_left 4 (show s.1<=8 by omega)) (show s.2.1.length+1<=5 by omega)) (by decide)
 have fs:=yc gt;have gs:=xw gt;have fu:cZ (stS s d).2.1.length (stS s d).1 (shR (stS s b))=true:=by rw[lu,<- lt];exact fs
 have gu2:jc (stS s d).2.1.length (stS s d).1 (shR (stS s b))=(stS s b).2.1:=by rw[lu,<- lt];exact gs
 have gl:=ut fu;rw[gu2]at gl;have gv:=J1 gu gl;have lc:=Jx (C:=Co) gu fu hbn false;have br:=λ(l:List D) (hl:l.length<900)=>Bt (Co:=Co) gu fu hbn (f:=false) (l:=l) (tk:=[]) (a:=.str bi) (c:=0+0) hl;rw[gu2]at lc br;have sh:=DG (C:=Cs) gt;have lv:(brS (stS s d) (stS s b).2.1).2.1.length=s.2.1.length:=lt;have off:=Lb (brS (stS s d) (stS s b).2.1);rw[lv]at off;have gw:=wH gv (s.2.1.length:Int);have sh2:=DG (C:=Cs) gw;rw[off]at sh2;have nw:=FM (Cs:=Cs) h;have mm:=EM s.2.1.length (by omega);have p1:=rl h (z:=d) (by omega) (by omega) (l:=[]) (tk:=[]) (a:=.str cF) (c:=0) (by simp);have p2:=br [st3 (.str cF) (sD s) 0] (by simp);have p3:=rl gv (z:=(s.2.1.length:Int)) (by omega) (by omega) (l:=[st3 (.str cF) (sD s) 0,st3 (.str bi) (sD (stS s d)) (0+0)]) (tk:=[]) (a:=.str fq) (c:=0+0+(cj (stS s d) (stS s b).2.1:Int)) (by simp);have r1:ca [.int 3]=.ok [.int 0,.int 1,.int 2]:=pN (n:=3) (by decide);have sDt:ixD (sD (stS s b)) (.int 1)=some (.tup ((stS s b).2.1.map .str)):=rfl;have rwt:(stS s b).2.1.map D.str=gX s.2.1.length (aW s.1 s.2.1.length (X99 s) b):=by show((List.range s.2.1.length).map _).map D.str=_;rw[List.map_map];rfl
 have n1:hV (.int 2) (.int (s.2.1.length:Int))=some (.int (2 * (s.2.1.length:Int))):=rfl;have lm:eI [.tup (s.2.1.map D.str)]=some (.int (s.2.1.length:Int)):=by rw[GF,List.length_map]
 have l7:((fA s.2.1.length (aW s.1 s.2.1.length (X99 s) d) (aW s.1 s.2.1.length (X99 s) b)).filter λk=>!(aW s.1 s.2.1.length (X99 s) b k).all (·==32)).length=((List.range s.2.1.length).filter λk=>!(aW s.1 s.2.1.length (X99 s) b k).all (·==32)).length:=t3;rw[<- rwt]at aw;have l8:((List.range s.2.1.length).filter λk=>!(aW s.1 s.2.1.length (X99 s) b k).all (·==32)).length<=12:=Nat.le_trans (List.length_filter_le ..) (by rw[List.length_range];omega);obtain⟨KL,hKL⟩:∃KL,KL=fm ((fA s.2.1.length (aW s.1 s.2.1.length (X99 s) d) (aW s.1 s.2.1.length (X99 s) b)).filter λk=>!(aW s.1 s.2.1.length (X99 s) b k).all (·==32)):=⟨_,rfl⟩
 obtain⟨AL,hAL⟩:∃AL,AL=((List.range s.2.1.length).filter λk=>!(aW s.1 s.2.1.length (X99 s) b k).all (·==32)).map λk=>D.str (aW s.1 s.2.1.length (X99 s) b k):=⟨_,rfl⟩
 have k1:KL.length=AL.length:=by rw[hKL,hAL];unfold fm;rw[List.length_map,List.length_map];exact l7
 have k2:AL.length<=12:=by rw[hAL,List.length_map];exact l8
 rw[<- hKL]at kp;rw[<- hAL]at aw;have z1:nA aB eB dQ ff fb (iH Co) (jW Cb) (jV Cs) lw eS bQ (bz Cs) (bg Cs) (zu Cs) (fN Co) (aC 10 [.lst fz (ns.map .int)])=.nx [vL fz ns,vD (sD s),none,none,none,none,none,none,none,none]:=by
  show nA aB eB dQ ff fb (iH Co) (jW Cb) (jV Cs) lw eS bQ (bz Cs) (bg Cs) (zu Cs) (fN Co) [vL fz ns,none,none,none,none,none,none,none,none,none]=_;unfold nA;clear p1 p2 p3 br kp aw al lc sh sh2
  walk_at "run"
 have z2:oA aB eB dQ ff fb (iH Co) (jW Cb) (jV Cs) lw eS bQ (bz Cs) (bg Cs) (zu Cs) (fN Co) [vL fz ns,vD (sD s),none,none,none,none,none,none,none,none]=.nx [vL fz ns,vD (sD s),vI s.2.1.length,none,none,none,none,none,none,none]:=by
  have x1:ixD (sD s) (.int 1)=some (.tup (s.2.1.map .str)):=rfl;unfold oA;clear p1 p2 p3 br kp aw al lc sh sh2 z1;generalize s.2.1.map D.str=R1 at *
  walk_at "run"
 have z3:oV aB eB dQ ff fb (iH Co) (jW Cb) (jV Cs) lw eS bQ (bz Cs) (bg Cs) (zu Cs) (fN Co) [vL fz ns,vD (sD s),vI s.2.1.length,none,none,none,none,none,none,none]=.nx [vL fz ns,vD (sD s),vI s.2.1.length,vD (.int b),none,none,none,none,none,none]:=by
  unfold oV;rw[hb];clear p1 p2 p3 br kp aw al lc sh sh2 z1 z2 hKL hAL l7 l8 rwt t3 t1 sb e0 e1 e2 w2 m2
  walk_at "run"
 unfold mI zk Av yN;rw[z1,Gp,z2,Gp,z3,Gp];show aD ((fw (aL 2 bQ _ _)).out _ λd=>(fw (A5 (jV Cs) 1 [sD s])).out _ λfs=>_)=_;rw[ir (n:=2) (ds:=[sD s,.int b]) rfl rfl,sb,nw];show aD (ur aB eB dQ ff fb (iH Co) (jW Cb) (jV Cs) lw eS bQ (bz Cs) (bg Cs) (zu Cs) (fN Co) [vL fz ns,vD (sD s),vI s.2.1.length,vD (.int b),vD (sD (stS s b)),vO aB q.1 (bS [st3 (.str cF) (sD s) 0] []),none,none,none,none])=_;unfold ur;clear z1 z2 z3;have mr {ρ:Ev} {F:MF} {g:List (Nat×Fd)} {d:D} (h:ρ[5]?=some (vO aB q.1 g)) (e:F g []=.rd d):bZ aB 5 F ρ=.ok d:=Jv (b:=true) h e;refine(congrArg aD (dR (ρ1:=[vL fz ns,vD (sD s),vI s.2.1.length,vD (.int b),vD (sD (stS s b)),vO aB q.1 (bS [st3 (.str cF) (sD s) 0] []),vD (.int d),none,none,none]) ?_)).trans ?_;·show(aL 2 (bz Cs) _ _).out _ _=_;rw[ir (n:=2) (ds:=[sD s,sD (stS s b)]) rfl rfl,t1];rfl
 refine(congrArg aD (dR (ρ1:=[vL fz ns,vD (sD s),vI s.2.1.length,vD (.int b),vD (sD (stS s b)),vO aB q.1 (bS [st3 (.str cF) (sD s) 0,st3 (.str bi) (sD (stS s d)) (0+0)] []),vD (.int d),none,none,none]) ?_)).trans ?_;·exact(wL (p:=q.1) rfl (ds:=[.int d]) rfl rfl p1).trans rfl
 refine(congrArg aD (dR (ρ1:=[vL fz ns,vD (sD s),vI s.2.1.length,vD (.int b),vD (sD (stS s b)),vO aB q.1 (bS [st3 (.str cF) (sD s) 0,st3 (.str bi) (sD (stS s d)) (0+0)] []),vD (.int d),none,none,none]) ?_)).trans ?_;·refine(yW ((tB (kW (mr rfl (jI (l:=[st3 (.str cF) (sD s) 0]))) ((ir (n:=2) (ds:=[sD s,.int d]) rfl rfl).trans sd) (IA _))).trans ((tB (kW (mr rfl (lL (s:=stS s d) (l:=[st3 (.str cF) (sD s) 0]))) rfl rfl)).trans (kW (d:=.tup [.int 1,.int 0]) (mr rfl rfl) rfl rfl)))).trans rfl
 refine(congrArg aD (dR (ρ1:=[vL fz ns,vD (sD s),vI s.2.1.length,vD (.int b),vD (sD (stS s b)),vO aB q.1 (bS [st3 (.str cF) (sD s) 0,st3 (.str bi) (sD (stS s d)) (0+0)] []),vD (.int d),some (.own KL),none,none]) ?_)).trans ?_
 ·have zl:KL.length<=sizeLine:=Nat.le_trans (by omega) (show 12<=sizeLine by decide);have o5:∀(a b c d e:Option Sl)(f:List (Nat×Fd))(r:Ev),oH aB (a::b::c::d::e::vO aB q.1 f::r) 5=.ok f:=λ_ _ _ _ _ _ _=>gW rfl;have sm:dQ (bS [st3 (.str cF) (sD s) 0,st3 (.str bi) (sD (stS s d)) (0+0)] []) []=.rd (sD (stS s d)):=jI (l:=[st3 (.str cF) (sD s) 0]);have i1:gR [4] [vL fz ns,vD (sD s),vI s.2.1.length,vD (.int b),vD (sD (stS s b)),vO aB q.1 (bS [st3 (.str cF) (sD s) 0,st3 (.str bi) (sD (stS s d)) (0+0)] []),vD (.int d),none,none,none]=[none,vD (sD (stS s b))]:=rfl;have i2:∀xs,ce (.lst false xs)=.ok xs:=λ_=>rfl;unfold Ap;generalize fm (fA s.2.1.length (aW s.1 s.2.1.length (X99 s) d) (aW s.1 s.2.1.length (X99 s) b))=IL at *;generalize hpp:bS [st3 (.str cF) (sD s) 0,st3 (.str bi) (sD (stS s d)) (0+0)] []=PP at *;clear k1 k2 hb hKL hAL mr p1 p2 p3 br aw lc sh sh2 l7 l8 rwt t3 t1 sb e0 e1 e2 w2 m2 hpp a1 pk mm nw lm
  walk_at "run"
 show aD (aI _ _ [vL fz ns,vD (sD s),vI s.2.1.length,vD (.int b),vD (sD (stS s b)),vO aB q.1 (bS [st3 (.str cF) (sD s) 0,st3 (.str bi) (sD (stS s d)) (0+0)] []),vD (.int d),vD (.lst false KL),none,none])=_;refine(congrArg aD (dR (ρ1:=[vL fz ns,vD (sD s),vI s.2.1.length,vD (.int b),vD (sD (stS s b)),vO aB q.1 (bS [st3 (.str cF) (sD s) 0,st3 (.str bi) (sD (stS s d)) (0+0)] []),vD (.int d),vD (.lst false KL),none,none]) ?_)).trans ?_
 ·have zl:AL.length<=sizeLine:=Nat.le_trans k2 (show 12<=sizeLine by decide);have i1:gR [] [vL fz ns,vD (sD s),vI s.2.1.length,vD (.int b),vD (sD (stS s b)),vO aB q.1 (bS [st3 (.str cF) (sD s) 0,st3 (.str bi) (sD (stS s d)) (0+0)] []),vD (.int d),vD (.lst false KL),none,none]=[none]:=rfl;have i2:ce (.tup ((stS s b).2.1.map .str))=.ok ((stS s b).2.1.map .str):=rfl;have ne:neF (.int (AL.length:Int)) (.int (AL.length:Int))=some (.bl false):=zY rfl;unfold yC;generalize bS [st3 (.str cF) (sD s) 0,st3 (.str bi) (sD (stS s d)) (0+0)] []=PP at *;generalize (stS s b).2.1.map D.str=RT at *;clear hb hKL hAL mr p1 p2 p3 br al lc sh sh2 l7 l8 rwt t3 t1 sb e0 e1 e2 w2 m2 a1 pk mm nw lm kp
  walk_at "run"
 refine(congrArg aD (dR (ρ1:=[vL fz ns,vD (sD s),vI s.2.1.length,vD (.int b),vD (sD (stS s b)),vO aB q.1 (bS [st3 (.str cF) (sD s) 0,st3 (.str bi) (sD (stS s d)) (0+0),st3 (.str fq) (sD (brS (stS s d) (stS s b).2.1)) (0+0+(cj (stS s d) (stS s b).2.1:Int))] []),vD (.int d),vD (.lst false KL),vD (.int (cj (stS s d) (stS s b).2.1:Int)),none]) ?_)).trans ?_;·unfold sU BI;refine(congrArg (λo:O=>o.thenX λd ρ'=>O.nx (List.set ρ' 8 (some (Sl.val d)))) (vJ (n:=1) (p:=q.1) (ds:=[.lst false ((shR (stS s b)).map .str)]) rfl ?_ rfl p2)).trans rfl;rw[kY,ir (n:=1) (ds:=[sD (stS s b)]) rfl rfl,sh];rfl
 refine(congrArg aD (dR (ρ1:=[vL fz ns,vD (sD s),vI s.2.1.length,vD (.int b),vD (sD (stS s b)),vO aB q.1 (bS [st3 (.str cF) (sD s) 0,st3 (.str bi) (sD (stS s d)) (0+0),st3 (.str fq) (sD (brS (stS s d) (stS s b).2.1)) (0+0+(cj (stS s d) (stS s b).2.1:Int))] []),vD (.int d),vD (.lst false KL),vD (.int (cj (stS s d) (stS s b).2.1:Int)),none]) ?_)).trans ?_
 ·have c0:(0+0+(cj (stS s d) (stS s b).2.1:Int))=(cj (stS s d) (stS s b).2.1:Int):=by omega
  rw[c0];refine(yW ((tB (kW (d:=.tup ((stS s b).2.1.map .str)) ?_ rfl (Fu _))).trans ((tB (kW (d:=.int (cj (stS s d) (stS s b).2.1:Int)) (mr rfl (lL (s:=brS (stS s d) (stS s b).2.1) (l:=[st3 (.str cF) (sD s) 0,st3 (.str bi) (sD (stS s d)) (0+0)]))) rfl rfl)).trans (kW (d:=.int (cj (stS s d) (stS s b).2.1:Int)) rfl ?_ rfl)))).trans rfl;·rw[JT,mr rfl (jI (s:=brS (stS s d) (stS s b).2.1) (l:=[st3 (.str cF) (sD s) 0,st3 (.str bi) (sD (stS s d)) (0+0)]))];rfl
  ·rw[ir (n:=2) (ds:=[sD (stS s d),.lst false ((shR (stS s b)).map .str)]) (by rw[kY,ir (n:=2) (ds:=[sD s,.int d]) rfl rfl,sd,R.ok_bind,kY,ir (n:=1) (ds:=[sD (stS s b)]) rfl rfl,sh];rfl) rfl,lc]
 refine(congrArg aD (dR (ρ1:=[vL fz ns,vD (sD s),vI s.2.1.length,vD (.int b),vD (sD (stS s b)),vO aB q.1 (bS [st3 (.str cF) (sD s) 0,st3 (.str bi) (sD (stS s d)) (0+0),st3 (.str fq) (sD (brS (stS s d) (stS s b).2.1)) (0+0+(cj (stS s d) (stS s b).2.1:Int)),st3 (.str bi) (sD (stS (brS (stS s d) (stS s b).2.1) (s.2.1.length:Int))) (0+0+(cj (stS s d) (stS s b).2.1:Int)+0)] []),vD (.int d),vD (.lst false KL),vD (.int (cj (stS s d) (stS s b).2.1:Int)),none]) ?_)).trans ?_;·exact(wL (p:=q.1) rfl (ds:=[.int (s.2.1.length:Int)]) rfl rfl p3).trans rfl
 refine(congrArg aD (dR (ρ1:=[vL fz ns,vD (sD s),vI s.2.1.length,vD (.int b),vD (sD (stS s b)),vO aB q.1 (bS [st3 (.str cF) (sD s) 0,st3 (.str bi) (sD (stS s d)) (0+0),st3 (.str fq) (sD (brS (stS s d) (stS s b).2.1)) (0+0+(cj (stS s d) (stS s b).2.1:Int)),st3 (.str bi) (sD (stS (brS (stS s d) (stS s b).2.1) (s.2.1.length:Int))) (0+0+(cj (stS s d) (stS s b).2.1:Int)+0)] []),vD (.int d),vD (.lst false KL),vD (.int (cj (stS s d) (stS s b).2.1:Int)),none]) ?_)).trans ?_
 ·have c0:(0+0+(cj (stS s d) (stS s b).2.1:Int)+0)=(cj (stS s d) (stS s b).2.1:Int):=by omega
  rw[c0];refine(yW ((tB (kW (d:=.lst false ((List.replicate s.2.1.length ([]:List Nat)).map .str)) ?_ ?_ (Ew _))).trans (kW (d:=.int (cj (stS s d) (stS s b).2.1:Int)) (mr rfl (lL (s:=stS (brS (stS s d) (stS s b).2.1) (s.2.1.length:Int)) (l:=[st3 (.str cF) (sD s) 0,st3 (.str bi) (sD (stS s d)) (0+0),st3 (.str fq) (sD (brS (stS s d) (stS s b).2.1)) (0+0+(cj (stS s d) (stS s b).2.1:Int))]))) rfl rfl))).trans rfl;·rw[ir (n:=1) (ds:=[sD (stS (brS (stS s d) (stS s b).2.1) (s.2.1.length:Int))]) (by rw[kY,mr rfl (jI (s:=stS (brS (stS s d) (stS s b).2.1) (s.2.1.length:Int)) (l:=[st3 (.str cF) (sD s) 0,st3 (.str bi) (sD (stS s d)) (0+0),st3 (.str fq) (sD (brS (stS s d) (stS s b).2.1)) (0+0+(cj (stS s d) (stS s b).2.1:Int))]))];rfl) rfl,sh2]
  ·have one:∀ρ:Ev,ck (xv (aa (csz []) λ_=>R.ok [])) ρ=.ok (.lst false [.str []]):=λ_=>rfl;rw[JT,one,R.ok_bind,show ∀i ρ,rvz i ρ=rdV ρ i from λ_ _=>rfl,rd2,R.ok_bind,mm];rfl
 have bk:=λ(l tk:List D) (x a b:D) (c:Int) (ht:tk.length<900)=>EC (Cb:=Cb) (l:=l) (tk:=tk) (x:=x) (a:=a) (b:=b) (c:=c) (by omega);generalize 0+0+(cj (stS s d) (stS s b).2.1:Int)+0=c3 at *;generalize 0+0+(cj (stS s d) (stS s b).2.1:Int)=c2 at *;have bd:∀{x1 x2 x3 x4 x6 x7 x8 x9:Option Sl}{f f':List (Nat×Fd)}{w:D},jW Cb f []=.ok w f'->Ad aB eB dQ ff fb (iH Co) (jW Cb) (jV Cs) lw eS bQ (bz Cs) (bg Cs) (zu Cs) (fN Co) [vL fz ns,x1,x2,x3,x4,vO aB q.1 f,x6,x7,x8,x9]=.nx [vL fz ns,x1,x2,x3,x4,vO aB q.1 f',x6,x7,x8,x9]:=λe=>(dR (BT (p:=q.1) rfl e)).trans rfl;have lp:∀{x1 x2 x3 x4 x6 x7 x8 x9:Option Sl},qm aB eB dQ ff fb (iH Co) (jW Cb) (jV Cs) lw eS bQ (bz Cs) (bg Cs) (zu Cs) (fN Co) [vL fz ns,x1,x2,x3,x4,vO aB q.1 (bS [st3 (.str cF) (sD s) 0,st3 (.str bi) (sD (stS s d)) (0+0),st3 (.str fq) (sD (brS (stS s d) (stS s b).2.1)) c2,st3 (.str bi) (sD (stS (brS (stS s d) (stS s b).2.1) (s.2.1.length:Int))) c3] []),x6,x7,x8,x9]=.nx [vL fz ns,x1,x2,x3,x4,vO aB q.1 (bS [st3 (.str cF) (sD s) 0] [st3 (.str bi) (sD (stS (brS (stS s d) (stS s b).2.1) (s.2.1.length:Int))) c3,st3 (.str fq) (sD (brS (stS s d) (stS s b).2.1)) c2,st3 (.str bi) (sD (stS s d)) (0+0)]),x6,x7,x8,vD (.int 2)]:=λ{x1 x2 x3 x4 x6 x7 x8 x9}=>by
  unfold qm;rw[Gn,yK,kY,R.ok_bind,R.ok_bind,R.ok_bind,r1,R.ok_out];exact(ij rfl (bd (bk [st3 (.str cF) (sD s) 0,st3 (.str bi) (sD (stS s d)) (0+0)] [] _ _ _ _ (by simp)))).trans
   ((ij rfl (bd (bk [st3 (.str cF) (sD s) 0] [_] _ _ _ _ (by simp)))).trans ((ij rfl (bd (bk [] [_,_] _ _ _ _ (by simp)))).trans rfl))
 refine(congrArg aD (dR lp)).trans ?_;have fin:∀(ρ:Ev),ρ[1]?=some (vD (sD s))->bZ aB 5 dQ ρ=.ok (sD s)->bZ aB 5 ff ρ=.ok (.int 0)->qD aB eB dQ ff fb (iH Co) (jW Cb) (jV Cs) lw eS bQ (bz Cs) (bg Cs) (zu Cs) (fN Co) ρ=.rt (.bl true):=λρ v1 v2 v3=>by
  unfold qD;have v0:rvz 1 ρ=.ok (sD s):=by show rdV ρ 1=_;unfold rdV;rw[v1]
  have q1:=B0 (IA s);rw[Hv,Jt,JT,v2,R.ok_bind,v0,R.ok_bind,q1];show(bZ aB 5 ff ρ>>=_).out _ _=_;rw[v3];rfl
 refine(congrArg (λo:O=>aD (o.seq oNx)) (fin _ rfl (mr rfl (jI (l:=[]))) (mr rfl (lL (s:=s) (l:=[]))))).trans rfl
end Q99
namespace Q
open PySem PySem.Spec PyProof.Rows L2
def pJ(h:us.length=1):∃a,us=[a]:=by
 match us,h with
 | [a],_=>exact⟨a,rfl⟩
def qM(h:us.length=2):∃a b,us=[a,b]:=by
 match us,h with
 | [a,b],_=>exact⟨a,b,rfl⟩
def CZ(h:us.length=3):∃a b c,us=[a,b,c]:=by
 match us,h with
 | [a,b,c],_=>exact⟨a,b,c,rfl⟩
def Jb(h:us.length=4):∃a b c d,us=[a,b,c,d]:=by
 match us,h with
 | [a,b,c,d],_=>exact⟨a,b,c,d,rfl⟩
def Mz(h:us.length=5):∃a b c d e,us=[a,b,c,d,e]:=by
 match us,h with
 | [a,b,c,d,e],_=>exact⟨a,b,c,d,e,rfl⟩
def IV{K:PySem.W.Frag}{hp:Heap}{mg:Str->Option Value}{bm:List Value}{nid:String}(kin:K.In hp)(gl:hp.Ns mainGlobals mg)(e1:PySem.W.nsIn K mainGlobals x=some (some (.ref C)))(e2:PySem.W.excIn K C bm nid=true):OwnCls x C bm nid mg hp:=by
 constructor;·exact PySem.W.mg_of kin gl e1
 ·unfold PySem.W.excIn at e2;split at e2
  ·rename_i dct kl sls look;split at e2
   ·rename_i C0 more s0 s1 s2 s3 nw s5 hmro hsls;simp only[Bool.and_eq_true,beq_iff_eq,Bool.not_eq_true']at e2;obtain⟨⟨⟨⟨⟨eC,en⟩,edel⟩,etail⟩,ens⟩,einit⟩:=e2;obtain⟨f1,f2,f3,f4,f5,f6,f7,f8,f9,f10,f11⟩:=kl;dsimp only at hmro edel ens einit;have es:sls = #[s0,s1,s2,s3,some (.builtin nw),s5]:=by obtain⟨ls⟩:=sls;simp only at hsls;rw[hsls]
    subst hmro edel es eC en;exact⟨more,f4,f1,f5,f2,f6,f7,f8,f9,f10,dct,s0,s1,s2,s3,s5,_,kin _ _ look,.of_isNs (PySem.W.isNs_of_in kin ens),PySem.W.nsMap_none_of_in kin ens einit,PySem.W.tail_of_in kin etail⟩
   ·cases e2
  ·cases e2
def wJ{K:PySem.W.Frag}{hp:Heap}{mg:Str->Option Value}(kin:K.In hp)(gl:hp.Ns mainGlobals mg)(e1:PySem.W.nsIn K mainGlobals x=some (some (.ref C)))(e2:PySem.W.excIn K C [.type "ValueError",.type "Exception",.type "BaseException",.type "object"] "ValueError.__new__"=true):Ref x C mg hp:=
 ⟨_,_,_,_,IV kin gl e1 e2,PySem.F.excBase_ValueError⟩
def rN{K:PySem.W.Frag}{G:Hp}:∀ns:List Int,Reps K G (ns.map V.int) (ns.map D.int)
 | []=>.nil
 |i::ns=>.cons (.int i) (rN ns)
noncomputable def AX:List D->R D
 | [.lst _ ds]=>match pC ds with
  |some _=>.ok (.bl true)
  |none=>.no
 |_=>.no
def bn{K:PySem.W.Frag}{mg:Str->Option Value}{kV pm ct:Value}(X:K.In h)(G:h.Ns mainGlobals mg)(a:PySem.W.nsIn K mainGlobals x=some (some (.ref f)))(l:K.lookup f=some ⟨oc,od,.func (PySem.W.fnOf x x (eE st) (bb st) (aq st) .none kV doc pm an cdv ct),osl⟩)(c:PySem.W.codeIn K cdv x=true)(k:PySem.W.keepIn K (.ref f)=true):∃f fd,Fun K x x st f fd/\mg x=some (.ref f):=
 ⟨f,_,wr l c k,PySem.W.mg_of X G a⟩
def AO{w:World}{K:PySem.W.Frag}{mg mb:Str->Option Value}{fa:Addr}{sp:Sp}{s₁:Shared}{vs:List Value}{ns:List Int}{nm:Addr->Str}(KX:K.In s₁.heap)(hns:s₁.heap.Ns mainGlobals mg)(hb:s₁.heap.Ns builtinsNs mb)(hbb:∀x:Str,x≠"__name__"->mb x=bootBuiltins x)(hlim:s₁.heap.NoLimit)(hg:s₁.gens = #[])(ha:s₁.heap.get? a=some { cls:=.type "list",data:=.seq vs.toArray })(hi:IntsAre vs ns)(hl:ns.length<=sizeLine)(hr:Room k callerA)(hts:∀p∈ts,s₁.heap.get? p=some (PySem.W.tabObj #[])/\isCodeTable s₁.heap p/\K.lookup p=none)(hbm:∃bm ob,mg "__builtins__"=some (Value.ref bm)/\bm≠builtinsNs/\s₁.heap.get? bm=some ob/\ob.cls=Value.type "module"/\ob.dict=some builtinsNs/\ob.data=Data.plain)(F:∀base:Heap,K.In base->base.Ns mainGlobals mg->(∀p∈ts,base.BuiltinsAt mg p/\xV base p (nm p))->FnOk P w K mg base CX k fa fd [x] sp)(hbind:∀(s:Shared)(u:Value),BindsTo s fd ⟨[u],[]⟩ [(x,u)])(hsp:∀H:Hp,SqL K H a (ns.map V.int)->sp [.ref a] H (λv _=>v=.bl true) λ_ _ _=>False)(hCX:∀H e s',CX [] H s₁ (λ_ _ _=>False) e s'->False):
  codeAny (model P w) callerA (.call (.ref fa) ⟨[.ref a],[]⟩) (λr s'=>r=.ok (.ret (.bool true))/\OldK s₁.heap s'.heap/\s'.os=s₁.os/\AllBare s'.gens) s₁:=by
 let tf:Addr->Array Value:=λp=>#[.str (nm p) 0];have rv:=rD hi;have lenV:=hi.length;have nat:∀p∈ts,p≠a:=λp hp z=>by have:=(hts p hp).1;rw[z,ha]at this;have:=congrArg Obj.data (Option.some.inj this);cases this
 have core:∀H:Hp,(∀b,b∉ts->H b=none\/∃o xs,H b=some (.frz o (.lst xs)))->(∀p∈ts,H p=some (.tbl (tf p)))->SqL K H a (ns.map V.int)->HOk P w H s₁.heap->(∀b,H b≠none->b=a\/b∈ts)->(H a≠none->K.lookup a=none)->
   codeAny (model P w) callerA (.call (.ref fa) ⟨[.ref a],[]⟩) (λr s'=>r=.ok (.ret (.bool true))/\OldK s₁.heap s'.heap/\s'.os=s₁.os/\AllBare s'.gens) s₁:=by
  intro H hO hO2 hS hok hA hK;have base_of:∀{b:Addr}{o:Obj},s₁.heap.get? b=some o->H b=none->(wo s₁.heap H).get? b=some o:=λe n=>AZ e n;have noA:∀{b:Addr}{o:Obj}{es:Array DictEntry}{ep:Nat},s₁.heap.get? b=some o->o.data=.dict es ep->H b=none:=λ{b o es ep} e d=>by
   cases q:H b with
   |none=>rfl
   |some u=>
    rcases hA b (by rw[q];simp)with e'|e';·subst e';rw[ha]at e;cases e;have d':Data.seq vs.toArray _=Data.dict es ep:=d;cases d'
    ·rw[(hts b e').1]at e;cases e;have d':Data.fields #[]=Data.dict es ep:=d;cases d'
  have nsK:∀{b:Addr}{m:Str->Option Value},s₁.heap.Ns b m->(wo s₁.heap H).Ns b m:=λ{b m} ⟨o,es,ep,e,d,r⟩=>⟨o,es,ep,base_of e (noA e d),d,r⟩
  have hKb:K.In (wo s₁.heap H):=λb o e=>base_of (KX b o e) (by
   cases q:H b with
   |none=>rfl
   |some u=>
    rcases hA b (by rw[q];simp)with e'|e';·subst e';rw[hK (by rw[q];simp)]at e;cases e
    ·rw[(hts b e').2.2]at e;cases e);have hM:Mod K mg (wo s₁.heap H):=⟨hKb,nsK hns,⟨mb,nsK hb,hbb⟩,let⟨mc,h1,h2⟩:=hlim;⟨mc,nsK h1,h2⟩⟩
  have e0:Env0 P w K mg (wo s₁.heap H) callerA [] s₁ H:=⟨rfl,hM,λb o e=>En e,Nat.le_of_eq (yO _ _),trivial,λb hb=>absurd (show b∈([]:List Addr) from hb) (by simp),hok,.of_eq hg,Au _ _⟩
  have hBM0:∀p∈ts,(wo s₁.heap H).BuiltinsAt mg p:=λp hp=>by
   obtain⟨bm,ob,m1,m2,m3,m4,m5,m6⟩:=hbm;have hn:H bm=none:=by
    cases q:H bm with
    |none=>rfl
    |some u=>
     rcases hA bm (by rw[q];simp)with e'|e';·subst e';rw[ha]at m3;cases m3;have d':Data.seq vs.toArray _=Data.plain:=m6;cases d'
     ·rw[(hts bm e').1]at m3;cases m3;have d':Data.fields #[]=Data.plain:=m6;cases d'
   refine⟨bm,ob,m1,m2,λz=>?_,λz=>?_,base_of m3 hn,m4,m5,m6⟩;·obtain⟨o,es,ep,e,d,_⟩:=hns;rw[<- z,m3]at e;cases e;rw[m6]at d;cases d
   ·have e:=(hts p hp).1;rw[<- z,m3]at e;cases e;have d':Data.fields #[]=Data.plain:=m6;cases d'
  have hBM:∀p∈ts,(wo s₁.heap H).BuiltinsAt mg p/\xV (wo s₁.heap H) p (nm p):=λp hp=>⟨hBM0 p hp,CM (get_objs.1 (hts p hp).1).1 (hO2 p hp)⟩
  refine codeAny_mono ((F _ hKb (nsK hns) hBM).run callerA [] s₁ H ⟨[.ref a],[]⟩ [.ref a] [.ref a] _ _ hr e0 (hbind s₁ (.ref a)) (.cons rfl .nil) (hsp H hS)) λr s' h=>?_;cases r with
  |error e=>exact(hCX H e s' h).elim
  |ok fl=>
   cases fl with
   |next=>exact False.elim h
   |brk=>exact False.elim h
   |cont=>exact False.elim h
   |ret u=>
    obtain⟨v,H',os,bare,un,hok',r',q⟩:=h;have q':v=.bl true:=q;subst q';obtain rfl:u=Value.bool true:=r';have tab:∀p∈ts,∃qs,s'.heap.get? p=some { cls:=.none,data:=.fields qs }:=λp hp=>by obtain⟨more,z⟩:=un.tbls p _ (hO2 p hp);obtain⟨qs,e,_⟩:=hok' p _ z;exact⟨qs,e⟩
    have keep:∀b o,b∉ts->s₁.heap.get? b=some o->s'.heap.get? b=some o:=λb o hb e=>by
     cases q:H b with
     |none=>exact un.keep b o e q (by intro z;exact absurd (show b∈([]:List Addr) from z) (by simp)) (by simp)
     |some u=>
      rcases hO b hb with z|⟨ob,xs,z⟩;·rw[q]at z;cases z
      ·have z2:=un.frzs b ob _ z;obtain⟨e1,_⟩:=hok b _ z;obtain⟨e2,_⟩:=hok' b _ z2;rw[e]at e1;cases e1;exact e2
    refine⟨rfl,⟨λb o e=>?_,λb o e=>?_⟩,os,bare⟩
    ·by_cases hb:b∈ts;·obtain⟨t1,t2,_⟩:=hts b hb;rw[t1]at e;cases e;obtain⟨qs,z⟩:=tab b hb;exact .inr (.inl ⟨t2,rfl,#[],qs,rfl,by rw[z];simp⟩)
     ·exact .inl (keep b o hb e)
    ·by_cases hb:b∈ts;·obtain⟨qs,z⟩:=tab b hb;exact⟨_,z⟩
     ·exact⟨o,keep b o hb e⟩
 have tabOk:∀(H:Hp)(p:Addr),p∈ts->ObjOk P w H s₁.heap p (.tbl (tf p)):=λH p hp=>⟨#[],(hts p hp).1,trivial,λpos cv q=>by simp[codeAmong]at q⟩
 cases hk:K.lookup a with
 |some o=>
  have e:=KX a o hk;rw[ha]at e;cases e;refine core (λb=>if b∈ts then some (.tbl (tf b))else none) (λb hb=>.inl (if_neg hb)) (λp hp=>if_pos hp) (.inr ⟨_,vs.toArray,_,hk,rfl,rfl,rfl,by rw[List.size_toArray,lenV];exact hl,by simpa using rv⟩) (λb u z=>?_) (λb z=>?_) λz=>absurd (if_neg λhb=>nat a hb rfl) z
  ·by_cases hb:b∈ts;·have z':=(if_pos hb).symm.trans z;cases z';exact tabOk _ b hb
   ·have z':=(if_neg hb).symm.trans z;cases z'
  ·by_cases hb:b∈ts;·exact .inr hb
   ·exact absurd (if_neg hb) z
 |none=>
  have na:a∉ts:=λz=>nat a z rfl;refine core (λb=>if b=a then some (.frz { cls:=.type "list",data:=.seq vs.toArray } (.lst (ns.map V.int)))else if b∈ts then some (.tbl (tf b))else none) (λb hb=>?_) (λp hp=>?_) (.inl (.inr ⟨{ cls:=.type "list",data:=.seq vs.toArray },if_pos rfl⟩)) (λb u z=>?_) (λb z=>?_) λ_=>hk
  ·by_cases hb':b=a;·exact .inr ⟨_,_,if_pos hb'⟩
   ·exact .inl ((if_neg hb').trans (if_neg hb))
  ·exact(if_neg (nat p hp)).trans (if_pos hp)
  ·by_cases hb:b=a;·have z':=(if_pos hb).symm.trans z;cases z';subst hb;exact⟨ha,by rw[List.length_map];exact hl,vs,_,rv,ha⟩
   ·have z':=(if_neg hb).symm.trans z;by_cases hb2:b∈ts;·rw[if_pos hb2]at z';cases z';exact tabOk _ b hb2
    ·rw[if_neg hb2]at z';cases z'
  ·by_cases hb:b=a;·exact .inl hb
   ·by_cases hb2:b∈ts;·exact .inr hb2
    ·exact absurd ((if_neg hb).trans (if_neg hb2)) z
def Ge{c:Addr}(q:PySem.W.CodeHd h c p):isCodeTable h p:=by obtain⟨o,vs,_,_,_,_,_,_,_,e,e1,e2,e3,_⟩:=q;exact⟨c,o,vs,e,e1,e2,e3⟩
def ou{α β:Type}[BEq α][LawfulBEq α]{a:α}:∀{l:List (α×β)},a∉l.map (·.1)->l.lookup a=none
 | [],_=>rfl
 | (k,v)::r,h=>by
  simp only[List.map_cons,List.mem_cons,not_or]at h;have:(a==k)=false:=by simp;exact h.1
  simp only[List.lookup_cons,this];exact ou h.2
def LF{l:PySem.W.OpenLaw}{q:Program}{XP:(Str->Option Value)->Heap->Prop}{d:DefRec}{K:Params->PySem.W.Frag}{as:List Addr}{e:∀P:Params,as=(K P).map (·.1)}{L:Nat}(hL:Room L callerA)(hn:l.most=some 63)(hdf:d.params.defaults=[])(hts:∀p∈ts,p∉as)(F:∀(w:World)(mg:Str->Option Value)(fa:Addr)(h:Heap),(K w.params).In h->h.Ns mainGlobals mg->mg d.name=some (.ref fa)->
 (∀p∈ts,isCodeTable h p)/\∃nm:Addr->Str,
 ∃fd:FuncData,(∀(s:Shared)(u:Value),BindsTo s fd ⟨[u],[]⟩ [("_law_script",u)])/\∀base:Heap,(K w.params).In base->base.Ns mainGlobals mg->(∀p∈ts,base.BuiltinsAt mg p/\xV base p (nm p))->FnF l.prog w (K w.params) mg base L fa fd ["_law_script"] AX):
  PySem.W.WalkO q loose XP (PySem.W.kmHook K as e ts).says l.row.toRowW d [] (λf vs=>PySem.call f vs):=by
 refine Att.attach_call hn hdf λw s₀ s₁ mg mb fa o pm cd doc a vs ns G Y ho hd hcd hmg hobj hints hlen hg=>?_;have KX:=PySem.W.km_in_of Y;obtain⟨ht,nm,fd,hb,hF⟩:=F w mg fa _ KX G.T.g hmg;refine AO KX G.T.g G.T.b G.T.builtins G.T.nolimit hg hobj hints (Nat.le_trans hlen (by decide)) hL (λp hp=>⟨PySem.W.km_tabs_of Y p hp,ht p hp,ou (by rw[<- e w.params];exact hts p hp)⟩) G.T.bmain hF hb (λH hS=>⟨rfl,H,[.lst true (ns.map .int)],.refl _,.cons (.fls hS (rN ns)) .nil,?_⟩) λH e s' z=>by obtain⟨a,C,H',_,_,z⟩:=z;exact z
 have e:AX [.lst true (ns.map .int)]=.ok (.bl true):=by simp only[AX,rV]
 rw[e];exact λv G' H' u r=>r.bl_inv
def FP{K:PySem.W.Frag}{mg:Str->Option Value}{c:Addr}{od2:Option Addr}{sl2:Array (Option Value)}{kV pm ct:Value}{vs:Array Value}{file:Str}{tf tg tt:Tok}{flags text:Int}{inF:Bool}(X:K.In h)(G:h.Ns mainGlobals mg)(a:PySem.W.nsIn K mainGlobals x=some (some (.ref f)))(l:K.lookup f=some ⟨oc,od,.func (PySem.W.fnOf x x (eE st) (bb st) (aq st) .none kV doc pm an (.ref c) ct),osl⟩)(cI:PySem.W.codeIn K (.ref c) x=true)(k:PySem.W.keepIn K (.ref f)=true)(lc:K.lookup c=some ⟨.type "code",od2,.fields vs,sl2⟩)(e11:vs[11]?=some (.ref Pt))(e11':vs.getD 11 .none=.ref Pt)(e18:vs.getD 18 .none=.str file tf)(e7:vs.getD 7 .none=.int flags tg)(e9:vs.getD 9 .none=.bool inF)(e10:vs.getD 10 .none=.int text tt)(nc:c≠Pt)(n4:mainGlobals≠Pt):
  ∃f fd,(Fun K x x st f fd/\mg x=some (.ref f))/\LamDef K mg fd Pt:=by
 have hc:∀h,K.In h->PySem.W.CodeHd h c Pt:=λh X=>⟨_,vs,file,tf,flags,tg,inF,text,tt,X _ _ lc,rfl,rfl,e11,e11',e18,e7,e9,e10,nc⟩
 exact⟨f,_,⟨wr l cI k,PySem.W.mg_of X G a⟩,⟨⟨c,rfl,hc⟩,n4⟩⟩
def LamDef.tab{K:PySem.W.Frag}{mg:Str->Option Value}(L:LamDef K mg fd Pt)(X:K.In h):isCodeTable h Pt:=by obtain⟨c,_,q⟩:=L.ex;exact Ge (q h X)
def HA{K:PySem.W.Frag}{mg:Str->Option Value}{q:Str}{L:List (Addr×Str)}{S:Addr->FuncData->Prop}(LD:∃f fd,S f fd/\LamDef K mg fd Pt)(X:K.In h)(r:∀pq∈L,isCodeTable h pq.1):∀pq∈(Pt,q)::L,isCodeTable h pq.1:=λpq hp=>by
 obtain⟨f,fd,_,ld⟩:=LD;rcases List.mem_cons.1 hp with z|z;·rw[z];exact LamDef.tab ld X
 ·exact r pq z
def HD:∀pq∈([]:List (Addr×Str)),isCodeTable h pq.1:=λpq hp=>by simp at hp
def Nv{w:World}{K:PySem.W.Frag}{mg:Str->Option Value}{fa:Addr}{L:Nat}{tq:List (Addr×Str)}(h1:∀p∈ts,p∈tq.map (·.1))(h2:∀pq∈tq,pq.1∈ts/\tq.lookup pq.1=some pq.2)(hc:∀pq∈tq,isCodeTable h pq.1)(a:∃fd:FuncData,(∀(s:Shared)(u:Value),BindsTo s fd ⟨[u],[]⟩ [("_law_script",u)])/\∀base:Heap,K.In base->base.Ns mainGlobals mg->(∀pq∈tq,base.BuiltinsAt mg pq.1/\xV base pq.1 pq.2)->FnF P w K mg base L fa fd ["_law_script"] AX):
  (∀p∈ts,isCodeTable h p)/\∃nm:Addr->Str,∃fd:FuncData,(∀(s:Shared)(u:Value),BindsTo s fd ⟨[u],[]⟩ [("_law_script",u)])/\∀base:Heap,K.In base->base.Ns mainGlobals mg->(∀p∈ts,base.BuiltinsAt mg p/\xV base p (nm p))->
   FnF P w K mg base L fa fd ["_law_script"] AX:=by
 obtain⟨fd',hb,hF⟩:=a;refine⟨λp hp=>?_,λp=>(tq.lookup p).getD Str.empty,fd',hb,λbase kb nb hB=>hF base kb nb λpq hpq=>?_⟩;·obtain⟨pq,hpq,rfl⟩:=List.mem_map.1 (h1 p hp);exact hc pq hpq
 ·obtain⟨z1,z2⟩:=h2 pq hpq;have:=hB pq.1 z1;dsimp only at this;rw[z2]at this;exact this
def jG{K:PySem.W.Frag}{kV pm ct:Value}(a:PySem.W.findIn K (.ref C) x=some (some (.ref f)))(i:PySem.W.isFn K (.ref f)=true)(l:K.lookup f=some ⟨oc,od,.func (PySem.W.fnOf x qual (eE st) (bb st) (aq st) .none kV doc pm an cdv ct),osl⟩)(c:PySem.W.codeIn K cdv qual=true)(k:PySem.W.keepIn K (.ref f)=true):∃f fd,Fun K x qual st f fd/\Meth K C x f:=
 ⟨f,_,wr l c k,⟨a,i,k⟩⟩
def FL{K:PySem.W.Frag}{kV pm ct:Value}(a:PySem.W.findIn K (.ref C) "__init__"=some (some (.ref f)))(i:PySem.W.isFn K (.ref f)=true)(l:K.lookup f=some ⟨oc,od,.func (PySem.W.fnOf "__init__" qual (eE st) (bb st) (aq st) .none kV doc pm an cdv ct),osl⟩)(c:PySem.W.codeIn K cdv qual=true)(k:PySem.W.keepIn K (.ref f)=true)(mk:PySem.W.makesIn K C=true)(kc:PySem.W.keepIn K (.ref C)=true):
  ∃f fd,Fun K "__init__" qual st f fd/\Mk K C f:=⟨f,_,wr l c k,⟨mk,a,i,kc⟩⟩
def Hc{K:PySem.W.Frag}(ne:C≠DC)(pg:PySem.W.plainGet K C Str.empty=true)(hd:PySem.W.hasDictIn K C=true)(po:PySem.W.plainOver K C=true)(sa:PySem.W.findIn K (.ref C) "__setattr__"=some (some (.builtin "object.__setattr__"))):CF K C []:=
 ⟨⟨pg,hd,po,sa⟩,ne,λk hk=>by simp at hk⟩
def yb{K:PySem.W.Frag}(k:Nat)(h:CF K C ks)(hk:k<fnames.length)(e:di k=x)(n:PySem.W.findIn K (.ref C) x=some none):CF K C (k::ks):=
 ⟨h.cl,h.ne,λj hj=>by
  rcases List.mem_cons.1 hj with rfl|hj;·exact⟨hk,by unfold NoAttr;rw[e];exact n⟩
  ·exact h.na j hj⟩
section
variable{w:World}{K:PySem.W.Frag}{mg:Str->Option Value}{base:Heap}{n:Nat}{G:MF}
def jz(F:Fun K x qual st f fd)(m:Meth K C x f)(ok:FnM P w K mg base k f fd ps C G)(h:∀(kV doc pm:Value)(an:Option Addr)(cdv ct:Value)(us:List Value),us.length=ps.length->bindArgs (PySem.W.fnOf x qual (eE st) (bb st) (aq st) .none kV doc pm an cdv ct) ⟨us,[]⟩=pure (ps.zip us))(e:ps.length=n+1):MCallee P w K mg base C x k n G:=
 ⟨⟨f,fd,ps,ok,m,F.binds h,e⟩⟩
def zo{n:Nat}(F:Fun K x x st f fd)(hm:mg x=some (.ref f))(ok:FnM P w K mg base k f fd ps C G)(h:∀(kV doc pm:Value)(an:Option Addr)(cdv ct:Value)(us:List Value),us.length=ps.length->bindArgs (PySem.W.fnOf x x (eE st) (bb st) (aq st) .none kV doc pm an cdv ct) ⟨us,[]⟩=pure (ps.zip us))(e:ps.length=n+1):CalleeM P w K mg base C x k n G:=
 ⟨f,fd,ps,ok,hm,F.kp,F.binds h,e⟩
def mkc{cn:Str}(F:Fun K x qual st f fd)(m:Mk K C f)(hc:mg cn=some (.ref C))(ne:C≠DC)(ok:FnM P w K mg base k f fd ps C G)(h:∀(kV doc pm:Value)(an:Option Addr)(cdv ct:Value)(us:List Value),us.length=ps.length->bindArgs (PySem.W.fnOf x qual (eE st) (bb st) (aq st) .none kV doc pm an cdv ct) ⟨us,[]⟩=pure (ps.zip us))(e:ps.length=n+1):MkC P w K mg base C cn k n G:=
 ⟨⟨f,fd,ps,ok,m,hc,F.binds h,e⟩,ne⟩
def BV{cn:Str}(c:MkC P w K mg base C cn k n G)(k':Nat)(h:k<=k':=by decide):MkC P w K mg base C cn k' n G:=by obtain⟨f,fd,ps,M,hm,hg,hb,e⟩:=c.ex;exact⟨⟨f,fd,ps,{ M with run:=λA outer s H args us vs Q E hr=>M.run A outer s H args us vs Q E (hr.mono h) },hm,hg,hb,e⟩,c.ne⟩
end
def E6{α:Type}{g:α->List D->R D}(h:∀(ns:List Int)(fz:Bool)(q:α),g q [.lst fz (ns.map .int)]=.ok (.bl true)):∀ds:List D,ds.length=1->AX ds=.no\/∀q,g q ds=AX ds:=by
 intro ds hl
 match ds,hl with
 | [d],_=>
  cases d <;> first|exact Or.inl rfl|skip
  rename_i fz ds hl;cases hi:pC ds with
  |none=>exact Or.inl (by simp only[AX,hi])
  |some ns=>have e:=wz hi;subst e;refine Or.inr λq=>?_;rw[h ns fz q];simp only[AX,hi]
def kM{K:PySem.W.Frag}{its:Array Value}{n:Nat}(l:K.lookup a=some ⟨.type "tuple",od,.seq its n,osl⟩)(hz:its.size<=sizeLine)(v:Vals vs its.toList)(r:∀G,Reps K G vs ds):lM K a (.tup ds):=A6 l rfl rfl hz v r
def mH{K:PySem.W.Frag}{mg:Str->Option Value}(X:K.In h)(G:h.Ns mainGlobals mg)(e:PySem.W.nsIn K mainGlobals x=some (some (.ref a)))(k:lM K a (.tup ds)):∃a,mg x=some (.ref a)/\lM K a (.tup ds):=
 ⟨a,PySem.W.mg_of X G e,k⟩
end Q
namespace G99
open PySem PySem.Spec PyProof.Rows L2 Q Q81 Q99
local macro_rules | `(tactic| walk_at "s") => `(tactic| exact⟨rfl,rfl,rfl,by decide +kernel,rfl,by decide +kernel,by decide +kernel⟩)
local macro_rules | `(tactic| walk_at "1") => `(tactic| (intro _ _ _ _ _ _ us hl;obtain⟨a,z⟩:=pJ hl;subst z;rfl))
local macro_rules | `(tactic| walk_at "2") => `(tactic| (intro _ _ _ _ _ _ us hl;obtain⟨a,b,z⟩:=qM hl;subst z;rfl))
local macro_rules | `(tactic| walk_at "3") => `(tactic| (intro _ _ _ _ _ _ us hl;obtain⟨a,b,c,z⟩:=CZ hl;subst z;rfl))
local macro_rules | `(tactic| walk_at "4") => `(tactic| (intro _ _ _ _ _ _ us hl;obtain⟨a,b,c,d,z⟩:=Jb hl;subst z;rfl))
local macro_rules | `(tactic| walk_at "5") => `(tactic| (intro _ _ _ _ _ _ us hl;obtain⟨a,b,c,d,e,z⟩:=Mz hl;subst z;rfl))
noncomputable abbrev top(i:Nat):Stmt:=PySem.Challenge.pw_screenlines_k99_whole_scrolled_pads.main.body.getD i (.Pass ⟨0,0,0,0⟩)
noncomputable abbrev FUz(K:PySem.W.Frag)(n:Str)(i:Nat):=Fun K n n (top i)
section
variable{w:World}{K:PySem.W.Frag}{mg:Str->Option Value}{base:Heap}
def uQ:FnScope ["_law_script","_law_k"] ["_law_script","_law_k"] (aq (top 66)):=by walk_at "s"
def uo:FnScope ["_law_script","_law_k","_law_many","_law_drawn"] ["_law_script","_law_k","_law_many"] (aq (top 67)):=by walk_at "s"
def xy:FnScope ["_law_script","_law_at","_law_width","_law_made","_law_k","_law_long"] ["_law_script","_law_at","_law_width"] (aq (top 68)):=by walk_at "s"
def pG:FnScope ["_law_script","_law_at","_law_width","_law_many","_law_rows"] ["_law_script","_law_at","_law_width","_law_many"] (aq (top 69)):=by walk_at "s"
def uZ:FnScope ["_law_script","_law_at"] ["_law_script","_law_at"] (aq (top 70)):=by walk_at "s"
def vc:FnScope ["thing"] ["thing"] (aq (top 8)):=by walk_at "s"
def sR:FnScope ["thing","low","high"] ["thing","low","high"] (aq (top 9)):=by walk_at "s"
def ua:FnScope ["thing"] ["thing"] (aq (top 10)):=by walk_at "s"
def ly:FnScope ["thing","width"] ["thing","width"] (aq (top 14)):=by walk_at "s"
def uM:FnScope ["thing","width","many"] ["thing","width","many"] (aq (top 15)):=by walk_at "s"
def sf:FnScope ["thing","width"] ["thing"] (aq (top 16)):=by walk_at "s"
def nK:FnScope ["thing"] ["thing"] (aq (top 17)):=by walk_at "s"
def mw:FnScope ["screen","number"] ["screen","number"] (aq (top 54)):=by walk_at "s"
def uH:FnScope ["screen","by","rows"] ["screen","by"] (aq (top 55)):=by walk_at "s"
def kj:FnScope ["one","other"] ["one","other"] (aq (top 60)):=by walk_at "s"
def qh:FnScope ["one","other"] ["one","other"] (aq (top 61)):=by walk_at "s"
def uT:FnScope ["row"] ["row"] (aq (top 62)):=by walk_at "s"
def ia:FnScope ["one","other","by","both"] ["one","other","by"] (aq (top 63)):=by walk_at "s"
def qW:FnScope ["one","other","most","tried"] ["one","other"] (aq (top 64)):=by walk_at "s"
def tj{bF:List D->R D}(An:mg "abs"=none)(bc:mg "len"=none)(fM:mg "list"=none)(AF:mg "max"=none)(cg:mg "range"=none)(dF:Callee P w K mg base "check_same_size" 10 2 ba)(ip:Callee P w K mg base "alike_behind_scroll" 8 3 bF)(LB:LamB K mg base "scroll_by" fd Pt)(Fn:FUz K "scroll_by" 64 f fd):FnF P w K mg base 11 f fd ["one","other"] (λds=>aD (eK ba bF (aC 4 ds))):=by
 have hN:(["one","other","most","tried"]:List Str).Nodup:=by decide
 refine Fn.okFT LB qW (k:=10) (g:=eK ba bF) λcdv A outer s H E hr la=>?_;have hu:=hr.units;exact(ak (hU (aN dF hr (ac (aj at0) (ac (aj at1) af)))) (ak (dt at2 hN (lf (dz rfl bc (ac (aX (aj at0) ay) af)) ay)) (ak (dt at3 hN (Ek rfl rfl fM rfl cg (ac (ss (aj at2)) (ac (cb (aj at2) ay) af)))) (ak (bB (Hg rfl rfl AF hr la (aj at3) (x:="by") (N':=["one","other"]) (ix:=[0,1]) HG (λcl f cd A outer s H E hr=>by have hu:=hr.units;exact(eZ (ac (aN ip hr (ac (rq at1) (ac (rq at2) (ac (rq at0) af)))) (ac (ss (Kk rfl An (ac (rq at0) af))) (ac (ss (rq at0)) af))))))) aK))))
def B9:FnScope ["screen"] ["screen"] (aq (top 18)):=by walk_at "s"
def uq:FnScope ["screen","thing"] ["screen","thing"] (aq (top 19)):=by walk_at "s"
def qr:FnScope ["screen","thing"] ["screen","thing"] (aq (top 20)):=by walk_at "s"
def rX:FnScope ["screen","rows","width","missing"] ["screen","rows"] (aq (top 21)):=by walk_at "s"
def pZ:FnScope ["order"] ["order"] (aq (top 31)):=by walk_at "s"
def sQ:FnScope ["plan"] ["plan"] (aq (top 41)):=by walk_at "s"
def BQ:FnScope ["plans","state","plan"] ["plans","state","plan"] (aq (top 42)):=by walk_at "s"
def C3(mi:Callee P w K mg base "plan_cost" 1 1 bu)(ok:cV DC (gz bu) 3 F)(Fn:FUz K "offer" 42 f fd):FnM P w K mg base 2 f fd ["plans","state","plan"] DC F:=by refine Fn.okM BQ ok (k:=1) λ_ _ _ _ _ _ hr=>?_;have hu:=hr.units;exact(ak (jb (md (gE (IM 0 hu (aj at1)) (fo (Hm (aN mi hr (ac (aj at2) af)) (aN mi hr (ac (sG 0 hu (aj at1)) af)))))) (ak (JG 0 hu (aj at2) (aj at1)) aK) aK) aK)
def jn:FnScope ["plans","state","plan","order"] ["plans","state","plan","order"] (aq (top 43)):=by walk_at "s"
def jo{I_offer:MF}(iA:Callee P w K mg base "order_cost" 2 1 bV)(vA:CalleeM P w K mg base DC "offer" 2 2 I_offer)(ok:cV DC (bA I_offer bV) 4 F)(Fn:FUz K "offer_with_order" 43 f fd):FnM P w K mg base 3 f fd ["plans","state","plan","order"] DC F:=by exact Fn.okM jn ok (k:=2) λ_ _ _ _ _ _ hr=>(ak (oO (oW 0 vA hr (ac (aj at1) (ac (eZ (ac (cb (aX (aj at2) ay) (aN iA hr (ac (aj at3) af))) (ac (cb (aX (aj at2) ay) (eZ (ac (aj at3) af))) af))) af)))) aK)
def qB:FnScope ["plans","number","column","more"] ["plans","number","column"] (aq (top 44)):=by walk_at "s"
def pO(td:mg "dict"=none)(bf:mg "ELSEWHERE"=some (.ref a_ELSEWHERE))(bD:lM K a_ELSEWHERE (D.tup [D.bl false,D.bl false]))(dX:mg "HERE"=some (.ref a_HERE))(gG:lM K a_HERE (D.tup [D.bl true,D.bl false]))(bj:mg "HERE_WIPED"=some (.ref a_HERE_WIPED))(bI:lM K a_HERE_WIPED (D.tup [D.bl true,D.bl true]))(aR:mg "ELSEWHERE_WIPED"=some (.ref a_ELSEWHERE_WIPED))(aZ:lM K a_ELSEWHERE_WIPED (D.tup [D.bl false,D.bl true]))(bR:CalleeM P w K mg base DC "offer_with_order" 3 3 I_offer_with_order)(hg:∀ds:List D,ds.length=3->gr ds=.no\/∀q,aD (cE I_offer_with_order q (aC 4 ds))=gr ds)(Fn:FUz K "with_moves" 44 f fd):FnF P w K mg base 4 f fd ["plans","number","column"] gr:=by
 have hN:(["plans","number","column","more"]:List Str).Nodup:=by decide
 refine Fn.okA qB (k:=3) (g:=cE I_offer_with_order) hg λcdv A outer s H E hr=>?_;have hu:=hr.units;have h_1:PSF (fU (CXo P w) P w K mg base ["plans","number","column","more"] "with_moves" (aq (top 44)) f cdv A outer s H E) ((bb (top 44)).getD 1 (.Pass ⟨0,0,0,0⟩)) (eR I_offer_with_order):=(jb (BK 3 hu (bq rfl bf bD)) (ak (oO (oW 3 bR hr (ac (bq rfl dX gG) (ac (sG 3 hu (bq rfl bf bD)) (ac (eZ (ac (bE (l:=[103,111]) rfl (by decide)) (ac (aj at1) (ac (aj at2) af)))) af))))) aK) aK)
 have h_2:PSF (fU (CXo P w) P w K mg base ["plans","number","column","more"] "with_moves" (aq (top 44)) f cdv A outer s H E) ((bb (top 44)).getD 2 (.Pass ⟨0,0,0,0⟩)) (eJ I_offer_with_order):=(jb (BK 3 hu (bq rfl dX gG)) (ak (oO (oW 3 bR hr (ac (bq rfl bj bI) (ac (sG 3 hu (bq rfl dX gG)) (ac (eZ (ac (bE (l:=[119,105,112,101]) rfl (by decide)) af)) af))))) aK) aK)
 have h_3:PSF (fU (CXo P w) P w K mg base ["plans","number","column","more"] "with_moves" (aq (top 44)) f cdv A outer s H E) ((bb (top 44)).getD 3 (.Pass ⟨0,0,0,0⟩)) (eU I_offer_with_order):=(jb (BK 3 hu (bq rfl aR aZ)) (ak (oO (oW 3 bR hr (ac (bq rfl bj bI) (ac (sG 3 hu (bq rfl aR aZ)) (ac (eZ (ac (bE (l:=[103,111]) rfl (by decide)) (ac (aj at1) (ac (aj at2) af)))) af))))) aK) aK)
 have h_4:PSF (fU (CXo P w) P w K mg base ["plans","number","column","more"] "with_moves" (aq (top 44)) f cdv A outer s H E) ((bb (top 44)).getD 4 (.Pass ⟨0,0,0,0⟩)) (jT I_offer_with_order):=(DK 3)
 exact(CD 3 hN rfl td (aj at0) (uE (ak h_1 (ak h_2 (ak h_3 (ak h_4 aK))))))
def nQ:FnScope ["plans","old","new","further","state","plan","wiped"] ["plans","old","new"] (aq (top 45)):=by walk_at "s"
def mG{I_offer:MF}(bR:CalleeM P w K mg base DC "offer_with_order" 3 3 I_offer_with_order)(vA:CalleeM P w K mg base DC "offer" 3 2 I_offer)(hg:∀ds:List D,ds.length=3->gr ds=.no\/∀q,aD (cD I_offer_with_order I_offer q (aC 7 ds))=gr ds)(Fn:FUz K "stepped_over" 45 f fd):FnF P w K mg base 4 f fd ["plans","old","new"] gr:=by
 have hN:(["plans","old","new","further","state","plan","wiped"]:List Str).Nodup:=by decide
 refine Fn.okA nQ (k:=3) (g:=cD I_offer_with_order I_offer) hg λcdv A outer s H E hr=>?_;have hu:=hr.units;have h_1:PSF (fU (CXo P w) P w K mg base ["plans","old","new","further","state","plan","wiped"] "stepped_over" (aq (top 45)) f cdv A outer s H E) ((bb (top 45)).getD 1 (.Pass ⟨0,0,0,0⟩)) (cO I_offer_with_order I_offer):=(tY PassesOwn.leaving rfl (zA (aj at0)) (ue rfl (gF 4 hN (gF 5 hN pH))) (ak (dt at6 hN (aX (aj at4) ay)) (ak (jb (Jo (aX (aj at4) ay)) (ak (oO (oW 3 bR hr (ac (eZ (ac kK (ac (aj at6) af))) (ac (aj at5) (ac (eZ (ac (bE (l:=[115,97,121]) rfl (by decide)) (ac (aj at2) af))) af))))) aK) aK) (ak (jb (ug hu (CV (Fa (aj at6)) (bE (l:=[32]) rfl (by decide)) (aj at1)) (aj at2)) (ak (oO (oW 3 vA hr (ac (eZ (ac kK (ac (aj at6) af))) (ac (aj at5) af)))) aK) aK) aK))) (hn:=rC _))
 have h_2:PSF (fU (CXo P w) P w K mg base ["plans","old","new","further","state","plan","wiped"] "stepped_over" (aq (top 45)) f cdv A outer s H E) ((bb (top 45)).getD 2 (.Pass ⟨0,0,0,0⟩)) (fk I_offer_with_order I_offer):=(DK 3)
 exact(FT 3 hN (uE (ak h_1 (ak h_2 aK))))
def BN:FnScope ["plans","number","old","new","begin","current","column"] ["plans","number","old","new","begin"] (aq (top 46)):=by walk_at "s"
def uK:FnScope ["plans","states"] ["plans","states"] (aq (top 47)):=by walk_at "s"
def hY:FnScope ["number","old","new","plans"] ["number","old","new"] (aq (top 48)):=by walk_at "s"
def jP:FnScope ["number","old","new","place","plans","right","left"] ["number","old","new","place"] (aq (top 49)):=by walk_at "s"
def iY:FnScope ["number","old","new","place","plans"] ["number","old","new","place"] (aq (top 50)):=by walk_at "s"
def zC:FnScope ["thing"] ["thing"] (aq (top 26)):=by walk_at "s"
def Df:FnScope ["thing"] ["thing"] (aq (top 27)):=by walk_at "s"
def tJ:FnScope ["thing"] ["thing"] (aq (top 28)):=by walk_at "s"
def om:FnScope ["thing"] ["thing"] (aq (top 29)):=by walk_at "s"
def nv:FnScope ["thing","order"] ["thing"] (aq (top 30)):=by walk_at "s"
def kE:FnScope ["one","other","text"] ["one","other"] (aq (top 33)):=by walk_at "s"
def rA:FnScope ["orders","short","order","both"] ["orders"] (aq (top 34)):=by walk_at "s"
def Da:FnScope ["screen","rows","wanted","own","orders","number","row"] ["screen","rows"] (aq (top 51)):=by walk_at "s"
def F7:FnScope ["orders"] ["orders"] (aq (top 32)):=by walk_at "s"
def qy:FnScope ["screen","rows"] ["screen","rows"] (aq (top 52)):=by walk_at "s"
def rj:FnScope ["self"] ["self"] (aq (bp (top 58) 2)):=by walk_at "s"
def sv(aY:CF K aB [0,1])(ok:cV aB (jJ aB) 1 F)(Fn:Fun K "spent" "Pad.spent" (bp (top 58) 2) f fd):FnM P w K mg base 1 f fd ["self"] aB F:=by exact Fn.okM rj ok (k:=0) λ_ _ _ _ _ _ hr=>(ak (bB (aX (zI 0 0 aY (by decide) (ss ay)) ay)) aK)
def oa:FnScope ["self","step","screen","price"] ["self","step","screen","price"] (aq (bp (top 58) 3)):=by walk_at "s"
def nX(aY:CF K aB [0,1])(dJ:MCallee P w K mg base aB "spent" 1 0 au)(ok:cV aB (iu aB au) 4 F)(Fn:Fun K "step_to" "Pad.step_to" (bp (top 58) 3) f fd):FnM P w K mg base 2 f fd ["self","step","screen","price"] aB F:=by exact Fn.okM oa ok (k:=1) λ_ _ _ _ _ _ hr=>(ak (DW 0 0 aY (by decide) (eZ (ac (aj at1) (ac (aj at2) (ac (cb (cP 0 aY dJ hr) (aj at3)) af))))) (ak (zD 0 1 aY (by decide) (rP af)) aK))
def qS:FnScope ["self"] ["self"] (aq (bp (top 58) 1)):=by walk_at "s"
def sJ(aY:CF K aB [0,1])(ok:cV aB (ki aB) 1 F)(Fn:Fun K "sheet" "Pad.sheet" (bp (top 58) 1) f fd):FnM P w K mg base 1 f fd ["self"] aB F:=by exact Fn.okM qS ok (k:=0) λ_ _ _ _ _ _ hr=>(ak (bB (aX (zI 0 0 aY (by decide) (ss ay)) ay)) aK)
def ql:FnScope ["self","by"] ["self","by"] (aq (bp (top 58) 5)):=by walk_at "s"
def ph(dE:Callee P w K mg base "scrolled" 6 2 ah)(aY:CF K aB [0,1])(gK:MCallee P w K mg base aB "step_to" 6 3 bT)(cy:MCallee P w K mg base aB "sheet" 6 0 am)(ok:cV aB (jj aB bT am ah) 2 F)(Fn:Fun K "scroll" "Pad.scroll" (bp (top 58) 5) f fd):FnM P w K mg base 7 f fd ["self","by"] aB F:=by exact Fn.okM ql ok (k:=6) λ_ _ _ _ _ _ hr=>(ak (qz 0 aY gK hr (ac (bE (l:=[115,99,114,111,108,108]) rfl (by decide)) (ac (aN dE hr (ac (cP 0 aY cy hr) (ac (aj at1) af))) (ac ay af)))) aK)
def pf:FnScope ["self"] ["self"] (aq (bp (top 58) 9)):=by walk_at "s"
def qI(bc:mg "len"=none)(aY:CF K aB [0,1])(ok:cV aB (jg aB) 1 F)(Fn:Fun K "counts" "Pad.counts" (bp (top 58) 9) f fd):FnM P w K mg base 1 f fd ["self"] aB F:=by exact Fn.okM pf ok (k:=0) λ_ _ _ _ _ _ hr=>(ak (bB (eZ (ac (lf (pQ 0 0 aY (by decide) rfl bc) ay) (ac (pQ 0 1 aY (by decide) rfl bc) af)))) aK)
def sy:FnScope ["self","rows","screen","price"] ["self","rows"] (aq (bp (top 58) 6)):=by walk_at "s"
def rG(bO:mg "tuple"=none)(ig:Callee P w K mg base "least_cost" 9 2 ao)(jB:Callee P w K mg base "full_rows" 9 2 bM)(aY:CF K aB [0,1])(cy:MCallee P w K mg base aB "sheet" 9 0 am)(gK:MCallee P w K mg base aB "step_to" 9 3 bT)(ok:cV aB (kg aB am bT ao bM) 4 F)(Fn:Fun K "bring" "Pad.bring" (bp (top 58) 6) f fd):FnM P w K mg base 10 f fd ["self","rows"] aB F:=by
 have hN:(["self","rows","screen","price"]:List Str).Nodup:=by decide
 exact Fn.okM sy ok (k:=9) λ_ _ _ _ _ _ hr=>(ak (dt at2 hN (cP 0 aY cy hr)) (ak (dt at3 hN (aN ig hr (ac (aj at2) (ac (aj at1) af)))) (ak (qz 0 aY gK hr (ac (bE (l:=[98,114,105,110,103]) rfl (by decide)) (ac (eZ (ac (aX (aj at2) ay) (ac (mF rfl bO (ac (aN jB hr (ac (aj at2) (ac (aj at1) af))) af)) (ac (aX (aj at2) ay) af)))) (ac (aj at3) af)))) (ak (DH (aj at3)) aK))))
def tU:FnScope ["self","state"] ["self"] (aq (bp (top 58) 7)):=by walk_at "s"
def uX(bc:mg "len"=none)(pW:Ref "NoBack" iX mg base)(aY:CF K aB [0,1])(ok:cV aB (kU aB iX) 2 F)(Fn:Fun K "back" "Pad.back" (bp (top 58) 7) f fd):FnM P w K mg base 1 f fd ["self"] aB F:=by
 have hN:(["self","state"]:List Str).Nodup:=by decide
 refine Fn.okM tU ok (k:=0) λ_ _ _ _ _ _ hr=>?_;have hu:=hr.units;have hh:=hr.hd;exact(ak (jb (ug hu (pQ 0 0 aY (by decide) rfl bc) ay) (ak (jq pW hh (bE (l:=[116,104,101,114,101,32,105,115,32,110,111,32,115,116,101,112,32,116,104,97,116,32,99,97,110,32,98,101,32,116,97,107,101,110,32,98,97,99,107]) rfl (by decide))) aK) aK) (ak (G9 0 0 1 aY (by decide) hN) (ak (DW 0 1 aY (by decide) (aj at1)) (ak (DH (aX (aj at1) ay)) aK))))
def tN:FnScope ["self","screen"] ["self","screen"] (aq (bp (top 58) 0)):=by walk_at "s"
def uJ{Di:Tok}(mV:mg "MADE"=some (.str "made" Di))(bw:Callee P w K mg base "check_screen" 5 1 aG)(aY:CF K aB [0,1])(ok:cV aB (lj aB aG) 2 F)(Fn:Fun K "__init__" "Pad.__init__" (bp (top 58) 0) f fd):FnM P w K mg base 6 f fd ["self","screen"] aB F:=by exact Fn.okM tN ok (k:=5) λ_ _ _ _ _ _ hr=>(ak (hU (aN bw hr (ac (aj at1) af))) (ak (zD 0 0 aY (by decide) (rP (ac (eZ (ac (CW (l:=[109,97,100,101]) rfl mV rfl (by decide)) (ac (aj at1) (ac ay af)))) af))) (ak (zD 0 1 aY (by decide) (rP af)) aK)))
def GA:FnScope ["_law_script","_law_screen_here","_law_many","_law_by","_law_goal","_law_pad","_law_told","_law_kept","_law_spent","_law_k"] ["_law_script"] (aq (top 71)):=by walk_at "s"
def Jj{ar av:MF}{ax aA az:MF}{ai ag aQ:List D->R D}(bc:mg "len"=none)(cg:mg "range"=none)(vp:Callee P w K mg base "_law_some" 11 2 ai)(bN:Callee P w K mg base "_law_pick" 11 3 ad)(dE:Callee P w K mg base "scrolled" 11 2 ah)(uP:Callee P w K mg base "scroll_by" 11 2 ag)(iM:Callee P w K mg base "alike_rows" 11 2 ae)(vg:Callee P w K mg base "shown" 11 1 aQ)(ig:Callee P w K mg base "least_cost" 11 2 ao)(aY:CF K aB [0,1])(lg:MCallee P w K mg base aB "scroll" 11 1 ar)(cy:MCallee P w K mg base aB "sheet" 11 0 am)(dJ:MCallee P w K mg base aB "spent" 11 0 au)(rZ:MCallee P w K mg base aB "counts" 11 0 av)(va:MCallee P w K mg base aB "bring" 11 1 ax)(xt:MCallee P w K mg base aB "back" 11 0 aA)(Jw:MkC P w K mg base aB "Pad" 10 1 az)(hg:∀ds:List D,ds.length=1->gr ds=.no\/∀q,aD (mI aB ar am au av ax aA az ai ad ah ag ae aQ ao q (aC 10 ds))=gr ds)(Fn:FUz K "law" 71 f fd):FnF P w K mg base 12 f fd ["_law_script"] gr:=by
 have hN:(["_law_script","_law_screen_here","_law_many","_law_by","_law_goal","_law_pad","_law_told","_law_kept","_law_spent","_law_k"]:List Str).Nodup:=by decide
 refine Fn.okA GA (k:=11) (g:=mI aB ar am au av ax aA az ai ad ah ag ae aQ ao) hg λcdv A outer s H E hr=>?_;have hu:=hr.units;have h_0:PSF (fU (CXo P w) P w K mg base ["_law_script","_law_screen_here","_law_many","_law_by","_law_goal","_law_pad","_law_told","_law_kept","_law_spent","_law_k"] "law" (aq (top 71)) f cdv A outer s H E) ((bb (top 71)).getD 0 (.Pass ⟨0,0,0,0⟩)) (nA aB ar am au av ax aA az ai ad ah ag ae aQ ao):=(dt at1 hN (aN vp hr (ac (aj at0) (ac ay af))))
 have h_1:PSF (fU (CXo P w) P w K mg base ["_law_script","_law_screen_here","_law_many","_law_by","_law_goal","_law_pad","_law_told","_law_kept","_law_spent","_law_k"] "law" (aq (top 71)) f cdv A outer s H E) ((bb (top 71)).getD 1 (.Pass ⟨0,0,0,0⟩)) (oA aB ar am au av ax aA az ai ad ah ag ae aQ ao):=(dt at2 hN (dz rfl bc (ac (aX (aj at1) ay) af)))
 have h_2:PSF (fU (CXo P w) P w K mg base ["_law_script","_law_screen_here","_law_many","_law_by","_law_goal","_law_pad","_law_told","_law_kept","_law_spent","_law_k"] "law" (aq (top 71)) f cdv A outer s H E) ((bb (top 71)).getD 2 (.Pass ⟨0,0,0,0⟩)) (oV aB ar am au av ax aA az ai ad ah ag ae aQ ao):=(dt at3 hN (cb (lf (aN bN hr (ac (aj at0) (ac ay (ac (lf (ic ay (aj at2)) ay) af)))) (aj at2)) ay))
 have h_4:PSF (fU (CXo P w) P w K mg base ["_law_script","_law_screen_here","_law_many","_law_by","_law_goal","_law_pad","_law_told","_law_kept","_law_spent","_law_k"] "law" (aq (top 71)) f cdv A outer s H E) ((bb (top 71)).getD 4 (.Pass ⟨0,0,0,0⟩)) (vR aB ar am au av ax aA az ai ad ah ag ae aQ ao):=(dt at6 hN (aN uP hr (ac (aj at1) (ac (aj at4) af))))
 have h_5:PSF (fU (CXo P w) P w K mg base ["_law_script","_law_screen_here","_law_many","_law_by","_law_goal","_law_pad","_law_told","_law_kept","_law_spent","_law_k"] "law" (aq (top 71)) f cdv A outer s H E) ((bb (top 71)).getD 5 (.Pass ⟨0,0,0,0⟩)) (vX aB ar am au av ax aA az ai ad ah ag ae aQ ao):=(qz 5 aY lg hr (ac (aj at6) af))
 have h_6:PSF (fU (CXo P w) P w K mg base ["_law_script","_law_screen_here","_law_many","_law_by","_law_goal","_law_pad","_law_told","_law_kept","_law_spent","_law_k"] "law" (aq (top 71)) f cdv A outer s H E) ((bb (top 71)).getD 6 (.Pass ⟨0,0,0,0⟩)) (wn aB ar am au av ax aA az ai ad ah ag ae aQ ao):=(jb (md (gE (fW hu (cP 5 aY cy hr) (aN dE hr (ac (aj at1) (ac (aj at6) af)))) (gE (fW hu (cP 5 aY dJ hr) ay) (fo (fW hu (cP 5 aY rZ hr) (eZ (ac ay (ac ay af)))))))) (ak (bB kK) aK) aK)
 have h_7:PSF (fU (CXo P w) P w K mg base ["_law_script","_law_screen_here","_law_many","_law_by","_law_goal","_law_pad","_law_told","_law_kept","_law_spent","_law_k"] "law" (aq (top 71)) f cdv A outer s H E) ((bb (top 71)).getD 7 (.Pass ⟨0,0,0,0⟩)) (Ap aB ar am au av ax aA az ai ad ah ag ae aQ ao):=(zj 7 hN (N':=["_law_row_here","_law_goal"]) (ix:=[4]) dZ rfl (gY (aN iM hr (ac (cP 5 aY cy hr) (ac (aj at4) af)))) (λC s₂ H₂ fp=>(bL at0)) (λC s₂ H₂ fp=>(zQz9 (fW hu (pA (aX (aX (bL at1) ay) (bL at0)) (ac (bE (l:=[32]) rfl (by decide)) af)) (bE (l:=[]) rfl (by decide))))))
 have h_8:PSF (fU (CXo P w) P w K mg base ["_law_script","_law_screen_here","_law_many","_law_by","_law_goal","_law_pad","_law_told","_law_kept","_law_spent","_law_k"] "law" (aq (top 71)) f cdv A outer s H E) ((bb (top 71)).getD 8 (.Pass ⟨0,0,0,0⟩)) (yC aB ar am au av ax aA az ai ad ah ag ae aQ ao):=(jb (fW hu (dz rfl bc (ac (aj at7) af)) (dz rfl bc (ac (iI (dM (N':=["_law_row_here"]) (ix:=[]) dZ rfl (gY (aX (aj at4) ay)) (λC s₂ H₂ fp=>(bL at0)) (λC s₂ H₂ fp=>(zQz9 (fW hu (pA (bL at0) (ac (bE (l:=[32]) rfl (by decide)) af)) (bE (l:=[]) rfl (by decide))))))) af))) (ak (bB kK) aK) aK)
 have h_9:PSF (fU (CXo P w) P w K mg base ["_law_script","_law_screen_here","_law_many","_law_by","_law_goal","_law_pad","_law_told","_law_kept","_law_spent","_law_k"] "law" (aq (top 71)) f cdv A outer s H E) ((bb (top 71)).getD 9 (.Pass ⟨0,0,0,0⟩)) (sU aB ar am au av ax aA az ai ad ah ag ae aQ ao):=(J7 8 hN (Il 5 aY va hr (ac (aN vg hr (ac (aj at4) af)) af)))
 have h_10:PSF (fU (CXo P w) P w K mg base ["_law_script","_law_screen_here","_law_many","_law_by","_law_goal","_law_pad","_law_told","_law_kept","_law_spent","_law_k"] "law" (aq (top 71)) f cdv A outer s H E) ((bb (top 71)).getD 10 (.Pass ⟨0,0,0,0⟩)) (oY aB ar am au av ax aA az ai ad ah ag ae aQ ao):=(jb (md (gE (fW hu (aX (cP 5 aY cy hr) ay) (aX (aj at4) ay)) (gE (fW hu (cP 5 aY dJ hr) (aj at8)) (fo (fW hu (aj at8) (aN ig hr (ac (aN dE hr (ac (aj at1) (ac (aj at6) af))) (ac (aN vg hr (ac (aj at4) af)) af)))))))) (ak (bB kK) aK) aK)
 have h_11:PSF (fU (CXo P w) P w K mg base ["_law_script","_law_screen_here","_law_many","_law_by","_law_goal","_law_pad","_law_told","_law_kept","_law_spent","_law_k"] "law" (aq (top 71)) f cdv A outer s H E) ((bb (top 71)).getD 11 (.Pass ⟨0,0,0,0⟩)) (pX aB ar am au av ax aA az ai ad ah ag ae aQ ao):=(qz 5 aY lg hr (ac (aj at2) af))
 have h_12:PSF (fU (CXo P w) P w K mg base ["_law_script","_law_screen_here","_law_many","_law_by","_law_goal","_law_pad","_law_told","_law_kept","_law_spent","_law_k"] "law" (aq (top 71)) f cdv A outer s H E) ((bb (top 71)).getD 12 (.Pass ⟨0,0,0,0⟩)) (Ak aB ar am au av ax aA az ai ad ah ag ae aQ ao):=(jb (md (gE (fW hu (aN vg hr (ac (cP 5 aY cy hr) af)) (ic (wG (rP (ac (bE (l:=[]) rfl (by decide)) af))) (aj at2))) (fo (fW hu (cP 5 aY dJ hr) (aj at8))))) (ak (bB kK) aK) aK)
 have h_13:PSF (fU (CXo P w) P w K mg base ["_law_script","_law_screen_here","_law_many","_law_by","_law_goal","_law_pad","_law_told","_law_kept","_law_spent","_law_k"] "law" (aq (top 71)) f cdv A outer s H E) ((bb (top 71)).getD 13 (.Pass ⟨0,0,0,0⟩)) (qm aB ar am au av ax aA az ai ad ah ag ae aQ ao):=(tY PassesOwn.leaving rfl (lS rfl cg (ac ay af)) (fE 9 hN) (ak (BX 5 aY xt hr) aK))
 have h_14:PSF (fU (CXo P w) P w K mg base ["_law_script","_law_screen_here","_law_many","_law_by","_law_goal","_law_pad","_law_told","_law_kept","_law_spent","_law_k"] "law" (aq (top 71)) f cdv A outer s H E) ((bb (top 71)).getD 14 (.Pass ⟨0,0,0,0⟩)) (qD aB ar am au av ax aA az ai ad ah ag ae aQ ao):=(bB (iw (vi hu (cP 5 aY cy hr) (aj at1)) (ji (vi hu (cP 5 aY dJ hr) ay))))
 exact(uh h_0 (uh h_1 (uh h_2 (BA 4 5 Jw hr rfl hN (aN dE hr (ac (aj at1) (ac (aj at3) af))) (ac (aj at1) af) (uE (ak h_4 (ak h_5 (ak h_6 (ak h_7 (Bq 7 (ak h_8 (ak h_9 (ak h_10 (ak h_11 (ak h_12 (ak h_13 (ak h_14 aK)))))))))))))))))
end
def He{w:World}{K:PySem.W.Frag}{mg:Str->Option Value}{fa:Addr}(hfa:mg "law"=some (.ref fa))(An:mg "abs"=none)(ny:mg "all"=none)(qT:mg "bool"=none)(td:mg "dict"=none)(cM:mg "enumerate"=none)(uC:mg "int"=none)(aM:mg "isinstance"=none)(bc:mg "len"=none)(fM:mg "list"=none)(AF:mg "max"=none)(rz:mg "min"=none)(cg:mg "range"=none)(ze:mg "str"=none)(Aa:mg "sum"=none)(bO:mg "tuple"=none)(bf:∃a,mg "ELSEWHERE"=some (.ref a)/\lM K a (D.tup [D.bl false,D.bl false]))(aR:∃a,mg "ELSEWHERE_WIPED"=some (.ref a)/\lM K a (D.tup [D.bl false,D.bl true]))(fj:∃t,mg "GO_COST"=some (.int 2 t))(dX:∃a,mg "HERE"=some (.ref a)/\lM K a (D.tup [D.bl true,D.bl false]))(bj:∃a,mg "HERE_WIPED"=some (.ref a)/\lM K a (D.tup [D.bl true,D.bl true]))(mV:∃t,mg "MADE"=some (.str "made" t))(bx:∃t,mg "MOST_ROWS"=some (.int 12 t))(bX:∃t,mg "MOST_SAID"=some (.int 40 t))(bJ:∃t,mg "MOST_WIDTH"=some (.int 40 t))(bP:∃a,mg "NO_ORDERS"=some (.ref a)/\lM K a (D.tup [D.int 0,D.tup []]))(da:∃t,mg "WIPE_COST"=some (.int 1 t))(pb:PySem.W.nsIn K mainGlobals "NoBack"=some (some (.ref iX)))(qK:PySem.W.excIn K iX [.type "ValueError",.type "Exception",.type "BaseException",.type "object"] "ValueError.__new__"=true)(kO:PySem.W.nsIn K mainGlobals "NoNumber"=some (some (.ref dC)))(kG:PySem.W.excIn K dC [.type "ValueError",.type "Exception",.type "BaseException",.type "object"] "ValueError.__new__"=true)(mq:PySem.W.nsIn K mainGlobals "NoOrder"=some (some (.ref bU)))(ml:PySem.W.excIn K bU [.type "ValueError",.type "Exception",.type "BaseException",.type "object"] "ValueError.__new__"=true)(kF:PySem.W.nsIn K mainGlobals "NoScreen"=some (some (.ref aF)))(kz:PySem.W.excIn K aF [.type "ValueError",.type "Exception",.type "BaseException",.type "object"] "ValueError.__new__"=true)(Em:PySem.W.nsIn K mainGlobals "Pad"=some (some (.ref aB)))(aY:CF K aB [0,1])(h66:∃f fd,FUz K "_law_cell" 66 f fd/\mg "_law_cell"=some (.ref f))(h67:∃f fd,FUz K "_law_pick" 67 f fd/\mg "_law_pick"=some (.ref f))(h68:∃f fd,FUz K "_law_row" 68 f fd/\mg "_law_row"=some (.ref f))(h69:∃f fd,FUz K "_law_screen" 69 f fd/\mg "_law_screen"=some (.ref f))(h70:∃f fd,FUz K "_law_some" 70 f fd/\mg "_law_some"=some (.ref f))(h8:∃f fd,FUz K "is_whole" 8 f fd/\mg "is_whole"=some (.ref f))(h9:∃f fd,FUz K "is_within" 9 f fd/\mg "is_within"=some (.ref f))(h10:∃f fd,FUz K "is_plain" 10 f fd/\mg "is_plain"=some (.ref f))(h14:∃f fd,FUz K "are_full_rows" 14 f fd/\mg "are_full_rows"=some (.ref f))(h15:∃f fd,FUz K "is_place" 15 f fd/\mg "is_place"=some (.ref f))(h16:∃f fd,FUz K "is_screen" 16 f fd/\mg "is_screen"=some (.ref f))(h17:∃f fd,FUz K "check_screen" 17 f fd/\mg "check_screen"=some (.ref f))(h54:∃f fd,FUz K "row_or_blank" 54 f fd/\mg "row_or_blank"=some (.ref f))(h55:∃f fd,FUz K "scrolled" 55 f fd/\mg "scrolled"=some (.ref f))(h60:∃f fd,FUz K "check_same_size" 60 f fd/\mg "check_same_size"=some (.ref f))(h61:∃f fd,FUz K "alike_rows" 61 f fd/\mg "alike_rows"=some (.ref f))(h62:∃f fd,FUz K "is_blank" 62 f fd/\mg "is_blank"=some (.ref f))(h63:∃f fd,FUz K "alike_behind_scroll" 63 f fd/\mg "alike_behind_scroll"=some (.ref f)){Pt64:Addr}(h64:∃f fd,(FUz K "scroll_by" 64 f fd/\mg "scroll_by"=some (.ref f))/\LamDef K mg fd Pt64)(h18:∃f fd,FUz K "shown" 18 f fd/\mg "shown"=some (.ref f))(h19:∃f fd,FUz K "are_rows" 19 f fd/\mg "are_rows"=some (.ref f))(h20:∃f fd,FUz K "check_rows" 20 f fd/\mg "check_rows"=some (.ref f))(h21:∃f fd,FUz K "full_rows" 21 f fd/\mg "full_rows"=some (.ref f))(h31:∃f fd,FUz K "order_cost" 31 f fd/\mg "order_cost"=some (.ref f))(h41:∃f fd,FUz K "plan_cost" 41 f fd/\mg "plan_cost"=some (.ref f))(h42:∃f fd,FUz K "offer" 42 f fd/\mg "offer"=some (.ref f))(h43:∃f fd,FUz K "offer_with_order" 43 f fd/\mg "offer_with_order"=some (.ref f))(h44:∃f fd,FUz K "with_moves" 44 f fd/\mg "with_moves"=some (.ref f))(h45:∃f fd,FUz K "stepped_over" 45 f fd/\mg "stepped_over"=some (.ref f))(h46:∃f fd,FUz K "swept" 46 f fd/\mg "swept"=some (.ref f))(h47:∃f fd,FUz K "cheapest" 47 f fd/\mg "cheapest"=some (.ref f))(h48:∃f fd,FUz K "plan_from_elsewhere" 48 f fd/\mg "plan_from_elsewhere"=some (.ref f))(h49:∃f fd,FUz K "plan_from_place" 49 f fd/\mg "plan_from_place"=some (.ref f))(h50:∃f fd,FUz K "row_of_place_plan" 50 f fd/\mg "row_of_place_plan"=some (.ref f))(h26:∃f fd,FUz K "is_say" 26 f fd/\mg "is_say"=some (.ref f))(h27:∃f fd,FUz K "is_go" 27 f fd/\mg "is_go"=some (.ref f))(h28:∃f fd,FUz K "is_order" 28 f fd/\mg "is_order"=some (.ref f))(h29:∃f fd,FUz K "check_order" 29 f fd/\mg "check_order"=some (.ref f))(h30:∃f fd,FUz K "check_orders" 30 f fd/\mg "check_orders"=some (.ref f))(h33:∃f fd,FUz K "joined_or_none" 33 f fd/\mg "joined_or_none"=some (.ref f))(h34:∃f fd,FUz K "shortened" 34 f fd/\mg "shortened"=some (.ref f))(h51:∃f fd,FUz K "least" 51 f fd/\mg "least"=some (.ref f))(h32:∃f fd,FUz K "cost" 32 f fd/\mg "cost"=some (.ref f))(h52:∃f fd,FUz K "least_cost" 52 f fd/\mg "least_cost"=some (.ref f))(h58_2:∃f fd,Fun K "spent" "Pad.spent" (bp (top 58) 2) f fd/\Meth K aB "spent" f)(h58_3:∃f fd,Fun K "step_to" "Pad.step_to" (bp (top 58) 3) f fd/\Meth K aB "step_to" f)(h58_1:∃f fd,Fun K "sheet" "Pad.sheet" (bp (top 58) 1) f fd/\Meth K aB "sheet" f)(h58_5:∃f fd,Fun K "scroll" "Pad.scroll" (bp (top 58) 5) f fd/\Meth K aB "scroll" f)(h58_9:∃f fd,Fun K "counts" "Pad.counts" (bp (top 58) 9) f fd/\Meth K aB "counts" f)(h58_6:∃f fd,Fun K "bring" "Pad.bring" (bp (top 58) 6) f fd/\Meth K aB "bring" f)(h58_7:∃f fd,Fun K "back" "Pad.back" (bp (top 58) 7) f fd/\Meth K aB "back" f)(h58_0:∃f fd,Fun K "__init__" "Pad.__init__" (bp (top 58) 0) f fd/\Mk K aB f)(h71:∃f fd,FUz K "law" 71 f fd/\mg "law"=some (.ref f)):
  ∃fd:FuncData,(∀(s:Shared)(u:Value),BindsTo s fd ⟨[u],[]⟩ [("_law_script",u)])/\∀base:Heap,K.In base->base.Ns mainGlobals mg->(∀pq∈([(Pt64,"scroll_by"++".<locals>."++"<lambda>")]:List (Addr×Str)),base.BuiltinsAt mg pq.1/\xV base pq.1 pq.2)->FnF P w K mg base 12 fa fd ["_law_script"] AX:=by
 obtain⟨a_ELSEWHERE,bf,bD⟩:=bf;obtain⟨a_ELSEWHERE_WIPED,aR,aZ⟩:=aR;obtain⟨rB,fj⟩:=fj;obtain⟨a_HERE,dX,gG⟩:=dX;obtain⟨a_HERE_WIPED,bj,bI⟩:=bj;obtain⟨Di,mV⟩:=mV;obtain⟨dG,bx⟩:=bx;obtain⟨gO,bX⟩:=bX;obtain⟨fD,bJ⟩:=bJ;obtain⟨a_NO_ORDERS,bP,db⟩:=bP;obtain⟨nF,da⟩:=da;obtain⟨f66,d66,F66⟩:=h66;obtain⟨f67,d67,F67⟩:=h67;obtain⟨f68,d68,F68⟩:=h68;obtain⟨f69,d69,F69⟩:=h69;obtain⟨f70,d70,F70⟩:=h70;obtain⟨f8,d8,F8⟩:=h8;obtain⟨f9,d9,F9⟩:=h9;obtain⟨f10,d10,F10⟩:=h10;obtain⟨f14,d14,F14⟩:=h14;obtain⟨f15,d15,F15⟩:=h15;obtain⟨f16,d16,F16⟩:=h16;obtain⟨f17,d17,F17⟩:=h17;obtain⟨f54,d54,F54⟩:=h54;obtain⟨f55,d55,F55⟩:=h55;obtain⟨f60,d60,F60⟩:=h60;obtain⟨f61,d61,F61⟩:=h61;obtain⟨f62,d62,F62⟩:=h62;obtain⟨f63,d63,F63⟩:=h63;obtain⟨f64,d64,F64,L64⟩:=h64;obtain⟨f18,d18,F18⟩:=h18;obtain⟨f19,d19,F19⟩:=h19;obtain⟨f20,d20,F20⟩:=h20;obtain⟨f21,d21,F21⟩:=h21;obtain⟨f31,d31,F31⟩:=h31;obtain⟨f41,d41,F41⟩:=h41;obtain⟨f42,d42,F42⟩:=h42;obtain⟨f43,d43,F43⟩:=h43;obtain⟨f44,d44,F44⟩:=h44;obtain⟨f45,d45,F45⟩:=h45;obtain⟨f46,d46,F46⟩:=h46;obtain⟨f47,d47,F47⟩:=h47;obtain⟨f48,d48,F48⟩:=h48;obtain⟨f49,d49,F49⟩:=h49;obtain⟨f50,d50,F50⟩:=h50;obtain⟨f26,d26,F26⟩:=h26;obtain⟨f27,d27,F27⟩:=h27;obtain⟨f28,d28,F28⟩:=h28;obtain⟨f29,d29,F29⟩:=h29;obtain⟨f30,d30,F30⟩:=h30;obtain⟨f33,d33,F33⟩:=h33;obtain⟨f34,d34,F34⟩:=h34;obtain⟨f51,d51,F51⟩:=h51;obtain⟨f32,d32,F32⟩:=h32;obtain⟨f52,d52,F52⟩:=h52;obtain⟨f58_2,d58_2,F58_2⟩:=h58_2;obtain⟨f58_3,d58_3,F58_3⟩:=h58_3;obtain⟨f58_1,d58_1,F58_1⟩:=h58_1;obtain⟨f58_5,d58_5,F58_5⟩:=h58_5;obtain⟨f58_9,d58_9,F58_9⟩:=h58_9;obtain⟨f58_6,d58_6,F58_6⟩:=h58_6;obtain⟨f58_7,d58_7,F58_7⟩:=h58_7;obtain⟨f58_0,d58_0,F58_0⟩:=h58_0;obtain⟨f71,d71,F71⟩:=h71;have e:fa=f71:=by have:=hfa.symm.trans F71.2;injection this with this;injection this
 subst e;refine⟨d71,λs u=>?_,λbase kb nb hT=>?_⟩;·obtain⟨oc,od,kV,doc,pm,an,cdv,ct,osl,rfl,lk,hcd⟩:=F71.1.ex;exact .of_eq rfl
 ·have pW:=wJ (x:="NoBack") kb nb pb qK;have kr:=wJ (x:="NoNumber") kb nb kO kG;have gm:=wJ (x:="NoOrder") kb nb mq ml;have cQ:=wJ (x:="NoScreen") kb nb kF kz;have Hx:=PySem.W.mg_of kb nb Em;have L64:LamB K mg base "scroll_by" d64 Pt64:=⟨L64,(hT _ (.head _)).2,(hT _ (.head _)).1⟩
  have k66:=F66.1.callee F66.2 ((F66.1.okF (P:=P) (w:=w) (base:=base) uQ (k:=0) (g:=dY) λ_ _ _ _ _ _ hr=>(ak (jb (Hm (aj at1) (dz rfl bc (ac (aj at0) af))) (ak (bB (aX (aj at0) (aj at1))) aK) aK) (ak (jb (ug hr.units (aj at0) (wG (rP af))) (ak (bB ay) aK) aK) (ak (bB (cb (ic (aX (aj at0) (vG (aj at1) (dz rfl bc (ac (aj at0) af)))) ay) (aj at1))) aK)))).to (tfr (F:=A1))) (by walk_at "2");have k67:=F67.1.callee F67.2 ((F67.1.okF uo (k:=1) (g:=dU _) λ_ _ _ _ _ _ hr=>(ak (dt at3 uo.nd (vG (ic (cb (aN k66 hr (ac (aj at0) (ac (aj at1) af))) (ic ay (cb (aj at1) ay))) ay) ay)) (ak (bB (vG (vG (cb (ic (aj at3) (aj at3)) (Ff (aj at3) ay)) ay) (aj at2))) aK))).to (tfr (F:=eS))) (by walk_at "3");have k68:=F68.1.callee F68.2 ((F68.1.okF xy (k:=2) (g:=ju _) λ_ _ _ _ _ _ hr=>(ak (dt at3 xy.nd (bE (l:=[]) rfl (by decide))) (ak (tY PassesOwn.leaving rfl (lS rfl cg (ac (aj at2) af)) (fE 4 xy.nd) (ak (dt at3 xy.nd (cb (aj at3) (aX (bE (l:=[32,32,97,98,35]) rfl (by decide)) (aN k67 hr (ac (aj at0) (ac (cb (cb (aj at1) ay) (aj at4)) (ac ay af))))))) aK)) (ak (dt at5 xy.nd (aN k67 hr (ac (aj at0) (ac (aj at1) (ac (cb (aj at2) ay) af))))) (ak (bB (CV (ug hr.units (aN k67 hr (ac (aj at0) (ac (cb (aj at1) ay) (ac ay af)))) ay) (aj at3) (cb (qv (aj at3) pB (zh (aj at5))) (ic (bE (l:=[32]) rfl (by decide)) (lf (aj at2) (aj at5)))))) aK))))).to (tfr (F:=JQ))) (by walk_at "3");have k67m3:=k67.mono 3;have k69:=F69.1.callee F69.2 ((F69.1.okF pG (k:=3) (g:=fS _ _) λ_ _ _ _ _ _ hr=>(ak (dt at4 pG.nd (mF rfl bO (ac (iI (dM (N':=["_law_k","_law_script","_law_at","_law_width"]) (ix:=[0,1,2]) dZ rfl (lS rfl cg (ac (aj at3) af)) (λC s₂ H₂ fp=>(aN k68 hr (ac (bL at1) (ac (cb (bL at2) (ic ay (bL at0))) (ac (bL at3) af))))) (λC s₂ H₂ fp=>iL))) af))) (ak (bB (eZ (ac (aj at2) (ac (aj at4) (ac (eZ (ac (aN k67m3 hr (ac (aj at0) (ac (cb (aj at1) ay) (ac (aj at3) af)))) (ac (aN k67m3 hr (ac (aj at0) (ac (cb (aj at1) ay) (ac (cb (aj at2) ay) af)))) af))) af))))) aK))).to (tfr (F:=B1))) (by walk_at "4");have k67m4:=k67.mono 4;have k70:=F70.1.callee F70.2 ((F70.1.okF uZ (k:=4) (g:=iz _ _) λ_ _ _ _ _ _ hr=>(ak (bB (aN k69 hr (ac (aj at0) (ac (cb (aj at1) ay) (ac (cb ay (aN k67m4 hr (ac (aj at0) (ac (aj at1) (ac ay af))))) (ac (cb ay (aN k67m4 hr (ac (aj at0) (ac (cb (aj at1) ay) (ac ay af))))) af)))))) aK)).to (tfr (F:=lw))) (by walk_at "2");have k8:=F8.1.callee F8.2 ((F8.1.okF (P:=P) (w:=w) (base:=base) vc (k:=0) (g:=fF) λ_ _ _ _ _ _ hr=>(ak (bB (iw (Fs aM (aj at0) uC) (ji (GJ (Bi aM (aj at0) qT))))) aK)).to uA) (by walk_at "1");have k9:=F9.1.callee F9.2 ((F9.1.okF sR (k:=1) (g:=eO _) λ_ _ _ _ _ _ hr=>(ak (bB (iw (aN k8 hr (ac (aj at0) af)) (ji (uN (aj at1) (aj at0) (aj at2))))) aK)).to rJ) (by walk_at "3");have k10:=F10.1.callee F10.2 ((F10.1.okF (P:=P) (w:=w) (base:=base) ua (k:=0) (g:=fO) λ_ _ _ _ _ _ hr=>(ak (bB (iw (F0 aM (aj at0) ze) (ji (El rfl rfl ny (ac (iI (dM (N':=["sign"]) (ix:=[]) dZ rfl (gY (aj at0)) (λC s₂ H₂ fp=>(uN (bE (l:=[32]) rfl (by decide)) (bL at0) (bE (l:=[126]) rfl (by decide)))) (λC s₂ H₂ fp=>iL))) af))))) aK)).to ux) (by walk_at "1");have k14:=F14.1.callee F14.2 ((F14.1.okF ly (k:=1) (g:=cR _) λ_ _ _ _ _ _ hr=>(ak (jb (md (gE (fC (gB (jY aM (aj at0) bO))) (fo (fC (EU ay (dz rfl bc (ac (aj at0) af)) (dN rfl bx)))))) (ak (bB kK) aK) aK) (ak (bB (El rfl rfl ny (ac (iI (dM (N':=["row","width"]) (ix:=[1]) dZ rfl (gY (aj at0)) (λC s₂ H₂ fp=>(iw (aN k10 hr (ac (bL at0) af)) (ji (vi hr.units (dz rfl bc (ac (bL at0) af)) (bL at1))))) (λC s₂ H₂ fp=>iL))) af))) aK))).to lq) (by walk_at "2");have k15:=F15.1.callee F15.2 ((F15.1.okF uM (k:=2) (g:=fG _) λ_ _ _ _ _ _ hr=>(ak (jb (md (gE (fC (gB (jY aM (aj at0) bO))) (fo (fW hr.units (dz rfl bc (ac (aj at0) af)) ay)))) (ak (bB kK) aK) aK) (ak (bB (iw (aN k9 hr (ac (aX (aj at0) ay) (ac ay (ac (lf (aj at2) ay) af)))) (ji (aN k9 hr (ac (aX (aj at0) ay) (ac ay (ac (aj at1) af))))))) aK))).to tQ) (by walk_at "3");have k9m3:=k9.mono 3;have k14m3:=k14.mono 3;have k16:=F16.1.callee F16.2 ((F16.1.okF sf (k:=3) (g:=eP _ _ _) λ_ _ _ _ _ _ hr=>(ak (jb (md (gE (fC (gB (jY aM (aj at0) bO))) (fo (fW hr.units (dz rfl bc (ac (aj at0) af)) ay)))) (ak (bB kK) aK) aK) (ak (dt at1 sf.nd (aX (aj at0) ay)) (ak (jb (md (gE (fC (gB (aN k9m3 hr (ac (aj at1) (ac ay (ac (dN rfl bJ) af)))))) (fo (fC (gB (aN k14m3 hr (ac (aX (aj at0) ay) (ac (aj at1) af)))))))) (ak (bB kK) aK) aK) (ak (bB (aN k15 hr (ac (aX (aj at0) ay) (ac (aj at1) (ac (dz rfl bc (ac (aX (aj at0) ay) af)) af))))) aK))))).to rm) (by walk_at "1");have k17:=F17.1.callee F17.2 ((F17.1.okF nK (k:=4) (g:=cX _ _) λ_ _ _ _ _ _ hr=>(ak (jb (fC (gB (aN k16 hr (ac (aj at0) af)))) (ak (jq cQ hr.hd (bE (l:=[116,104,105,115,32,105,115,32,110,111,32,115,99,114,101,101,110]) rfl (by decide))) aK) aK) aK)).to lV) (by walk_at "1");have k54:=F54.1.callee F54.2 ((F54.1.okF (P:=P) (w:=w) (base:=base) mw (k:=0) (g:=ef) λ_ _ _ _ _ _ hr=>(ak (jb (D7 ay (aj at1) (dz rfl bc (ac (aX (aj at0) ay) af))) (ak (bB (aX (aX (aj at0) ay) (aj at1))) aK) aK) (ak (bB (ic (bE (l:=[32]) rfl (by decide)) (aX (aj at0) ay))) aK))).to nD) (by walk_at "2");have k9m5:=k9.mono 5;have k54m5:=k54.mono 5;have k55:=F55.1.callee F55.2 ((F55.1.okF uH (k:=5) (g:=ie _ _ _ _) λ_ _ _ _ _ _ hr=>(ak (hU (aN k17 hr (ac (aj at0) af))) (ak (jb (fC (gB (aN k9m5 hr (ac (aj at1) (ac (ss (dN rfl bx)) (ac (dN rfl bx) af)))))) (ak (jq kr hr.hd (bE (l:=[97,32,115,99,114,101,101,110,32,105,115,32,115,99,114,111,108,108,101,100,32,98,121,32,45,49,50,32,116,111,32,49,50,32,114,111,119,115]) rfl (by decide))) aK) aK) (ak (zj 2 uH.nd (N':=["number","screen","by"]) (ix:=[0,1]) dZ rfl (lS rfl cg (ac (dz rfl bc (ac (aX (aj at0) ay) af)) af)) (λC s₂ H₂ fp=>(aN k54m5 hr (ac (bL at1) (ac (cb (bL at0) (bL at2)) af)))) (λC s₂ H₂ fp=>iL)) (Bq 2 (ak (bB (eZ (ac (aX (aj at0) ay) (ac (mF rfl bO (ac (aj at2) af)) (ac (aX (aj at0) ay) af))))) aK)))))).to uV) (by walk_at "2");have k60:=F60.1.callee F60.2 ((F60.1.okF kj (k:=5) (g:=cw _ _) λ_ _ _ _ _ _ hr=>(ak (hU (aN k17 hr (ac (aj at0) af))) (ak (hU (aN k17 hr (ac (aj at1) af))) (ak (jb (md (gE (fW hr.units (aX (aj at0) ay) (aX (aj at1) ay)) (fo (fW hr.units (dz rfl bc (ac (aX (aj at0) ay) af)) (dz rfl bc (ac (aX (aj at1) ay) af)))))) (ak (jq cQ hr.hd (bE (l:=[116,104,101,115,101,32,115,99,114,101,101,110,115,32,97,114,101,32,110,111,116,32,111,102,32,111,110,101,32,115,105,122,101]) rfl (by decide))) aK) aK) aK)))).to ja) (by walk_at "2");have k61:=F61.1.callee F61.2 ((F61.1.okF qh (k:=6) (g:=dL _) λ_ _ _ _ _ _ hr=>(ak (hU (aN k60 hr (ac (aj at0) (ac (aj at1) af)))) (ak (bB (iI (yJ (n:=2) (N':=["number","row","other"]) (ix:=[1]) Bh rfl (λC s₂ H₂ fp=>ue rfl (gF 0 (by show(["number","row","other"]:List Str).Nodup;decide) (gF 1 (by show(["number","row","other"]:List Str).Nodup;decide) pH))) Cn (zz rfl cM (aX (aj at0) ay)) (λC s₂ H₂ fp=>(bL at0)) (λC s₂ H₂ fp=>(zQz9 (ug hr.units (bL at1) (aX (aX (bL at2) ay) (bL at0)))))))) aK))).to nM) (by walk_at "2");have k62:=F62.1.callee F62.2 ((F62.1.okF (P:=P) (w:=w) (base:=base) uT (k:=0) (g:=fL) λ_ _ _ _ _ _ hr=>(ak (bB (vi hr.units (pA (aj at0) (ac (bE (l:=[32]) rfl (by decide)) af)) (bE (l:=[]) rfl (by decide)))) aK)).to qp) (by walk_at "1");have k55m7:=k55.mono 7;have k62m7:=k62.mono 7;have k63:=F63.1.callee F63.2 ((F63.1.okF ia (k:=7) (g:=bH _ _ _) λ_ _ _ _ _ _ hr=>(ak (dt at3 ia.nd (aN k61 hr (ac (aN k55m7 hr (ac (aj at0) (ac (aj at2) af))) (ac (aj at1) af)))) (ak (bB (dz rfl bc (ac (iI (dM (N':=["number","other"]) (ix:=[1]) dZ rfl (gY (aj at3)) (λC s₂ H₂ fp=>(bL at0)) (λC s₂ H₂ fp=>(zQz9 (fC (gB (aN k62m7 hr (ac (aX (aX (bL at1) ay) (bL at0)) af)))))))) af))) aK))).to fY) (by walk_at "3");have k64:=F64.1.callee F64.2 ((tj An bc fM AF cg (k60.mono 10) k63 L64 F64.1).to oe) (by walk_at "2");have k18:=F18.1.callee F18.2 ((F18.1.okF B9 (k:=5) (g:=mW _) λ_ _ _ _ _ _ hr=>(ak (hU (aN k17 hr (ac (aj at0) af))) (ak (bB (iI (dM (N':=["row"]) (ix:=[]) dZ rfl (gY (aX (aj at0) ay)) (λC s₂ H₂ fp=>(CT (bL at0) (ac (bE (l:=[32]) rfl (by decide)) af))) (λC s₂ H₂ fp=>iL)))) aK))).to (tfr (F:=zu _))) (by walk_at "1");have k10m5:=k10.mono 5;have k19:=F19.1.callee F19.2 ((F19.1.okF uq (k:=5) (g:=iG _ _) λ_ _ _ _ _ _ hr=>(ak (hU (aN k17 hr (ac (aj at0) af))) (ak (jb (md (gE (fC (gB (wu aM (aj at1) fM))) (fo (HR (dz rfl bc (ac (aj at1) af)) (dz rfl bc (ac (aX (aj at0) ay) af)))))) (ak (bB kK) aK) aK) (ak (bB (El rfl rfl ny (ac (iI (dM (N':=["row","screen"]) (ix:=[0]) dZ rfl (gY (aj at1)) (λC s₂ H₂ fp=>(iw (aN k10m5 hr (ac (bL at0) af)) (ji (KQ (dz rfl bc (ac (bL at0) af)) (aX (bL at1) ay))))) (λC s₂ H₂ fp=>iL))) af))) aK)))).to (tfr (F:=arG _))) (by walk_at "2");have k20:=F20.1.callee F20.2 ((F20.1.okF qr (k:=6) (g:=dP _ _) λ_ _ _ _ _ _ hr=>(ak (jb (fC (gB (aN k19 hr (ac (aj at0) (ac (aj at1) af))))) (ak (jq cQ hr.hd (bE (l:=[116,104,101,115,101,32,97,114,101,32,110,111,32,114,111,119,115,32,116,104,97,116,32,116,104,101,32,115,99,114,101,101,110,32,99,97,110,32,115,104,111,119]) rfl (by decide))) aK) aK) aK)).to nY) (by walk_at "2");have k21:=F21.1.callee F21.2 ((F21.1.okF (P:=P) (w:=w) (base:=base) rX (k:=0) (g:=gN) λ_ _ _ _ _ _ hr=>(ak (dt at2 rX.nd (aX (aj at0) ay)) (ak (dt at3 rX.nd (lf (dz rfl bc (ac (aX (aj at0) ay) af)) (dz rfl bc (ac (aj at1) af)))) (ak (bB (cb (iI (dM (N':=["row","width"]) (ix:=[2]) dZ rfl (gY (aj at1)) (λC s₂ H₂ fp=>(Ea (bL at0) (ac (bL at1) af))) (λC s₂ H₂ fp=>iL))) (ic (wG (rP (ac (ic (bE (l:=[32]) rfl (by decide)) (aj at2)) af))) (aj at3)))) aK)))).to (tfr (F:=frG))) (by walk_at "2");have k31:=F31.1.callee F31.2 ((F31.1.okF (P:=P) (w:=w) (base:=base) pZ (k:=0) (g:=fQ) λ_ _ _ _ _ _ hr=>(ak (jb (ug hr.units (aX (aj at0) ay) (bE (l:=[115,97,121]) rfl (by decide))) (ak (bB (dz rfl bc (ac (aX (aj at0) ay) af))) aK) aK) (ak (jb (ug hr.units (aX (aj at0) ay) (bE (l:=[103,111]) rfl (by decide))) (ak (bB (dN rfl fj)) aK) aK) (ak (bB (dN rfl da)) aK)))).to (tfr (F:=ocG))) (by walk_at "1");have k41:=F41.1.callee F41.2 ((F41.1.okF (P:=P) (w:=w) (base:=base) sQ (k:=0) (g:=gU) λ_ _ _ _ _ _ hr=>(ak (bB (aX (aj at0) ay)) aK)).to (tfr (F:=pcF))) (by walk_at "1");have k42:=zo F42.1 F42.2 (C3 (P:=P) (w:=w) (mg:=mg) (base:=base) k41 Dc F42.1) (by walk_at "3") (n:=2) rfl;have k43:=zo F43.1 F43.2 (jo (P:=P) (w:=w) (mg:=mg) (base:=base) (k31.mono 2) k42 jv F43.1) (by walk_at "4") (n:=3) rfl;have k44:=F44.1.callee F44.2 (pO (P:=P) (w:=w) (base:=base) td bf bD dX gG bj bI aR aZ k43 qA F44.1) (by walk_at "3");have k45:=F45.1.callee F45.2 (mG (P:=P) (w:=w) (base:=base) k43 (k42.mono 3) mK F45.1) (by walk_at "3");have k46:=F46.1.callee F46.2 ((F46.1.okF BN (k:=4) (g:=mU _ _) λ_ _ _ _ _ _ hr=>(ak (dt at5 BN.nd (aj at0)) (ak (tY PassesOwn.leaving rfl (yy rfl cg (ac (aj at4) (ac (dz rfl bc (ac (aj at2) af)) af))) (fE 6 BN.nd) (ak (dt at5 BN.nd (aN k45 hr (ac (aN k44 hr (ac (aj at5) (ac (aj at1) (ac (aj at6) af)))) (ac (aX (aj at2) (aj at6)) (ac (aX (aj at3) (aj at6)) af))))) aK)) (ak (bB (aj at5)) aK)))).to (tfr (F:=swF))) (by walk_at "5");have k47:=F47.1.callee F47.2 ((F47.1.okF (P:=P) (w:=w) (base:=base) uK (k:=2) (g:=iP _) λ_ _ _ _ _ _ hr=>(ak (bB (DS rfl rfl rz k41 hr.in1 (iI (dM (N':=["state","plans"]) (ix:=[0]) dZ rfl (gY (aj at1)) (λC s₂ H₂ fp=>(sG 1 hr.units (bL at0))) (λC s₂ H₂ fp=>(zQz9 (BK 1 hr.units (bL at0)))))))) aK)).to (tfr (F:=chF))) (by walk_at "2");have k47m5:=k47.mono 5;have k48:=F48.1.callee F48.2 ((F48.1.okF hY (k:=5) (g:=cB _ _) λ_ _ _ _ _ _ hr=>(ak (dt at3 hY.nd (aN k46 hr (ac (J2 hr.units (bq rfl bf bD) (bq rfl bP db)) (ac (aj at0) (ac (aj at1) (ac (aj at2) (ac ay af))))))) (ak (bB (aN k47m5 hr (ac (aj at3) (ac (eZ (ac (bq rfl bf bD) (ac (bq rfl dX gG) (ac (bq rfl aR aZ) (ac (bq rfl bj bI) af))))) af)))) aK))).to (tfr (F:=peF))) (by walk_at "3");have k49:=F49.1.callee F49.2 ((F49.1.okF jP (k:=5) (g:=cY _ _) λ_ _ _ _ _ _ hr=>(ak (dt at4 jP.nd (aN k46 hr (ac (J2 hr.units (bq rfl dX gG) (bq rfl bP db)) (ac (aj at0) (ac (aj at1) (ac (aj at2) (ac (aj at3) af))))))) (ak (dt at5 jP.nd (aN k47m5 hr (ac (aj at4) (ac (eZ (ac (bq rfl bf bD) (ac (bq rfl dX gG) (ac (bq rfl aR aZ) (ac (bq rfl bj bI) af))))) af)))) (ak (dt at4 jP.nd (aN k46 hr (ac (J2 hr.units (bq rfl bf bD) (bq rfl bP db)) (ac (aj at0) (ac (qv (aj at1) pB (zh (aj at3))) (ac (qv (aj at2) pB (zh (aj at3))) (ac ay af))))))) (ak (dt at6 jP.nd (aN k47m5 hr (ac (aj at4) (ac (eZ (ac (bq rfl bf bD) (ac (bq rfl dX gG) af))) af)))) (ak (bB (eZ (ac (cb (aX (aj at5) ay) (aX (aj at6) ay)) (ac (cb (aX (aj at5) ay) (aX (aj at6) ay)) af)))) aK)))))).to (tfr (F:=ppF))) (by walk_at "4");have k41m5:=k41.mono 5;have k50:=F50.1.callee F50.2 ((F50.1.okF iY (k:=6) (g:=cK _ _ _) λ_ _ _ _ _ _ hr=>(ak (dt at4 iY.nd (wG (rP (ac (aN k49 hr (ac (aj at0) (ac (aj at1) (ac (aj at2) (ac (aj at3) af))))) (ac (aN k48 hr (ac (aj at0) (ac (aj at1) (ac (aj at2) af)))) af))))) (ak (bB (DS rfl rfl rz k41m5 hr.in1 (aj at4))) aK))).to (tfr (F:=rpF))) (by walk_at "4");have k26:=F26.1.callee F26.2 ((F26.1.okF zC (k:=1) (g:=kB _) λ_ _ _ _ _ _ hr=>(ak (bB (iw (vi hr.units (dz rfl bc (ac (aj at0) af)) ay) (iw (vi hr.units (aX (aj at0) ay) (bE (l:=[115,97,121]) rfl (by decide))) (iw (aN k10 hr (ac (aX (aj at0) ay) af)) (ji (uN ay (dz rfl bc (ac (aX (aj at0) ay) af)) (dN rfl bX))))))) aK)).to (tfr (F:=Ls))) (by walk_at "1");have k27:=F27.1.callee F27.2 ((F27.1.okF Df (k:=2) (g:=nP _) λ_ _ _ _ _ _ hr=>(ak (jb (md (gE (fW hr.units (dz rfl bc (ac (aj at0) af)) ay) (fo (fW hr.units (aX (aj at0) ay) (bE (l:=[103,111]) rfl (by decide)))))) (ak (bB kK) aK) aK) (ak (bB (iw (aN k9 hr (ac (aX (aj at0) ay) (ac ay (ac (lf (dN rfl bx) ay) af)))) (ji (aN k9 hr (ac (aX (aj at0) ay) (ac ay (ac (dN rfl bJ) af))))))) aK))).to (tfr (F:=goG))) (by walk_at "1");have k26m3:=k26.mono 3;have k28:=F28.1.callee F28.2 ((F28.1.okF tJ (k:=3) (g:=iE _ _) λ_ _ _ _ _ _ hr=>(ak (jb (fC (gB (jY aM (aj at0) bO))) (ak (bB kK) aK) aK) (ak (bB (GB (aN k26m3 hr (ac (aj at0) af)) (GB (aN k27 hr (ac (aj at0) af)) (ji (vi hr.units (aj at0) (eZ (ac (bE (l:=[119,105,112,101]) rfl (by decide)) af))))))) aK))).to (tfr (F:=Ln))) (by walk_at "1");have k29:=F29.1.callee F29.2 ((F29.1.okF om (k:=4) (g:=fg _ _) λ_ _ _ _ _ _ hr=>(ak (jb (fC (gB (aN k28 hr (ac (aj at0) af)))) (ak (jq gm hr.hd (bE (l:=[116,104,105,115,32,105,115,32,110,111,32,111,114,100,101,114]) rfl (by decide))) aK) aK) aK)).to (tfr (F:=ckG _))) (by walk_at "1");have k30:=F30.1.callee F30.2 ((F30.1.okF nv (k:=5) (g:=eD _ _) λ_ _ _ _ _ _ hr=>(ak (jb (fC (gB (wu aM (aj at0) fM))) (ak (jq gm hr.hd (bE (l:=[116,104,105,115,32,105,115,32,110,111,32,108,105,115,116,32,111,102,32,111,114,100,101,114,115]) rfl (by decide))) aK) aK) (ak (tY PassesOwn.leaving rfl (gY (aj at0)) (fE 1 nv.nd) (ak (hU (aN k29 hr (ac (aj at1) af))) aK)) aK))).to (tfr (F:=JE _))) (by walk_at "1");have k33:=F33.1.callee F33.2 ((F33.1.okF (P:=P) (w:=w) (base:=base) kE (k:=0) (g:=dq) λ_ _ _ _ _ _ hr=>(ak (jb (fW hr.units (aX (aj at0) ay) (aX (aj at1) ay)) (ak (bB wm) aK) aK) (ak (jb (fW hr.units (aX (aj at0) ay) (bE (l:=[115,97,121]) rfl (by decide))) (ak (bB (aj at1)) aK) aK) (ak (dt at2 kE.nd (cb (aX (aj at0) ay) (aX (aj at1) ay))) (ak (bB (CV (LI (dz rfl bc (ac (aj at2) af)) (dN rfl bX)) (eZ (ac (bE (l:=[115,97,121]) rfl (by decide)) (ac (aj at2) af))) wm)) aK))))).to (tfr (F:=jnG))) (by walk_at "2");have k33m6:=k33.mono 6;have k34:=F34.1.callee F34.2 ((F34.1.okF rA (k:=6) (g:=gP _ _) λ_ _ _ _ _ _ hr=>(ak (hU (aN k30 hr (ac (aj at0) af))) (ak (Gv 1 rA.nd (rP af)) (ak (tY PassesOwn.leaving rfl (gY (aj at0)) (fE 2 rA.nd) (ak (IB 1 3 rA.nd (CV (HR (dz rfl bc (ac (aj at1) af)) ay) (aN k33m6 hr (ac (aX (aj at1) (ss ay)) (ac (aj at2) af))) wm)) (ak (jb (LX (aj at3) wm) (ak (CC 1 (aj at2)) aK) (ak (Gr 1 (aj at3) (ss ay)) aK)) aK))) (Bq 1 (ak (bB (aj at1)) aK)))))).to (tfr (F:=shG _))) (by walk_at "1");have k21m7:=k21.mono 7;have k48m7:=k48.mono 7;have k51:=F51.1.callee F51.2 ((F51.1.okF Da (k:=7) (g:=mM _ _ _ _ _) λ_ _ _ _ _ _ hr=>(ak (hU (aN k20 hr (ac (aj at0) (ac (aj at1) af)))) (ak (dt at2 Da.nd (aN k21m7 hr (ac (aj at0) (ac (aj at1) af)))) (ak (dt at3 Da.nd (aX (aX (aj at0) ay) ay)) (ak (Gv 4 Da.nd (wV rfl fM (ac (aX (aN k50 hr (ac (aj at3) (ac (aX (aX (aj at0) ay) (aj at3)) (ac (aX (aj at2) (aj at3)) (ac (aX (aX (aj at0) ay) ay) af))))) ay) af))) (ak (tY PassesOwn.leaving rfl (zz rfl cM (aX (aj at0) ay)) (ue rfl (gF 5 Da.nd (gF 6 Da.nd pH))) (ak (jb (fW hr.units (aj at5) (aj at3)) (ak (Hl 4 (aX (aN k48m7 hr (ac (aj at5) (ac (aj at6) (ac (aX (aj at2) (aj at5)) af)))) ay)) aK) aK) aK) (hn:=rC _)) (Bq 4 (ak (bB (aN k34 hr (ac (aj at4) af))) aK)))))))).to (tfr (F:=leF _))) (by walk_at "2");have k31m6:=k31.mono 6;have k32:=F32.1.callee F32.2 ((F32.1.okF F7 (k:=6) (g:=pP _ _) λ_ _ _ _ _ _ hr=>(ak (hU (aN k30 hr (ac (aj at0) af))) (ak (bB (Kd rfl rfl Aa (ac (iI (dM (N':=["order"]) (ix:=[]) dZ rfl (gY (aj at0)) (λC s₂ H₂ fp=>(aN k31m6 hr (ac (bL at0) af))) (λC s₂ H₂ fp=>iL))) af))) aK))).to (tfr (F:=coG _))) (by walk_at "1");have k32m8:=k32.mono 8;have k52:=F52.1.callee F52.2 ((F52.1.okF qy (k:=8) (g:=fT _ _) λ_ _ _ _ _ _ hr=>(ak (bB (aN k32m8 hr (ac (aN k51 hr (ac (aj at0) (ac (aj at1) af))) af))) aK)).to (tfr (F:=fN _))) (by walk_at "2");have k58_2:=jz F58_2.1 F58_2.2 (sv (P:=P) (w:=w) (mg:=mg) (base:=base) aY Gh F58_2.1) (by walk_at "1") (n:=0) rfl;have k58_3:=jz F58_3.1 F58_3.2 (nX (P:=P) (w:=w) (mg:=mg) (base:=base) aY k58_2 IY F58_3.1) (by walk_at "4") (n:=3) rfl;have k58_1:=jz F58_1.1 F58_1.2 (sJ (P:=P) (w:=w) (mg:=mg) (base:=base) aY D9 F58_1.1) (by walk_at "1") (n:=0) rfl;have k58_5:=jz F58_5.1 F58_5.2 (ph (P:=P) (w:=w) (mg:=mg) (base:=base) k55 aY (k58_3.mono 6) (k58_1.mono 6) Db F58_5.1) (by walk_at "2") (n:=1) rfl;have k58_9:=jz F58_9.1 F58_9.2 (qI (P:=P) (w:=w) (mg:=mg) (base:=base) bc aY Be F58_9.1) (by walk_at "1") (n:=0) rfl;have k58_6:=jz F58_6.1 F58_6.2 (rG (P:=P) (w:=w) (mg:=mg) (base:=base) bO k52 (k21.mono 9) aY (k58_1.mono 9) (k58_3.mono 9) E0 F58_6.1) (by walk_at "2") (n:=1) rfl;have k58_7:=jz F58_7.1 F58_7.2 (uX (P:=P) (w:=w) (mg:=mg) (base:=base) bc pW aY GY F58_7.1) (by walk_at "1") (n:=0) rfl;have k58_0:=mkc F58_0.1 F58_0.2 Hx aY.ne (uJ (P:=P) (w:=w) (mg:=mg) (base:=base) mV k17 aY Ht F58_0.1) (by walk_at "2") (n:=1) rfl;exact Jj bc cg (k70.mono 11) (k67.mono 11) (k55.mono 11) k64 (k61.mono 11) (k18.mono 11) (k52.mono 11) aY (k58_5.mono 11) (k58_1.mono 11) (k58_2.mono 11) (k58_9.mono 11) (k58_6.mono 11) (k58_7.mono 11) (BV k58_0 10) (E6 LL) F71.1
end G99
namespace PySem.W.Fast
theorem tw6643219370105744877:True:=⟨⟩
theorem tw16967398037298596454:True:=⟨⟩
theorem tw16181296103383310185:True:=⟨⟩
theorem tw4263304094291663569:True:=⟨⟩
theorem tw13441321719174021764:True:=⟨⟩
theorem tw4598768884864272140:True:=⟨⟩
theorem tw192493738811891055:True:=⟨⟩
theorem tw7153639688283406064:True:=⟨⟩
theorem tw14798791496588745701:True:=⟨⟩
theorem tw6072385069778043151:True:=⟨⟩
theorem tw16486090450776951744:True:=⟨⟩
theorem tw10377958573858578178:True:=⟨⟩
theorem tw13675030284609385989:True:=⟨⟩
theorem tw14890759539405094346:True:=⟨⟩
theorem tw18189290023069069547:True:=⟨⟩
theorem tw17129231897615351147:True:=⟨⟩
theorem tw16364340015015075275:True:=⟨⟩
theorem tw9248182209390701807:True:=⟨⟩
theorem tw246793771463762383:True:=⟨⟩
theorem tw10608211563187472176:True:=⟨⟩
theorem tw12949512691867084211:True:=⟨⟩
theorem tw6404334042480987635:True:=⟨⟩
theorem tw12307841916893048413:True:=⟨⟩
theorem tw5256817451521991294:True:=⟨⟩
end PySem.W.Fast
open PySem PySem.W PyProof.Rows
set_option maxRecDepth 100000 in
set_option maxHeartbeats 0 in
theorem PySem.Challenge.cw_screenlines_k99_whole_scrolled_pads_holds : PySem.Challenge.rw_screenlines_k99_whole_scrolled_pads.Holds := by
 w_on;o_law;k_head;(case hw=>w_witness2)
 k_fill
 refine Q.LF (l:=PySem.Challenge.rw_screenlines_k99_whole_scrolled_pads) (L:=12) ⟨rfl,by decide,by decide⟩ rfl rfl (by decide) ?F
 case F=>
  intro w mg fa h KX G hmg;have An:mg "abs"=none:=PySem.W.mg_none_of KX G (by k_is);have ny:mg "all"=none:=PySem.W.mg_none_of KX G (by k_is);have qT:mg "bool"=none:=PySem.W.mg_none_of KX G (by k_is);have td:mg "dict"=none:=PySem.W.mg_none_of KX G (by k_is);have cM:mg "enumerate"=none:=PySem.W.mg_none_of KX G (by k_is);have uC:mg "int"=none:=PySem.W.mg_none_of KX G (by k_is);have aM:mg "isinstance"=none:=PySem.W.mg_none_of KX G (by k_is);have bc:mg "len"=none:=PySem.W.mg_none_of KX G (by k_is);have fM:mg "list"=none:=PySem.W.mg_none_of KX G (by k_is);have AF:mg "max"=none:=PySem.W.mg_none_of KX G (by k_is);have rz:mg "min"=none:=PySem.W.mg_none_of KX G (by k_is);have cg:mg "range"=none:=PySem.W.mg_none_of KX G (by k_is);have ze:mg "str"=none:=PySem.W.mg_none_of KX G (by k_is);have Aa:mg "sum"=none:=PySem.W.mg_none_of KX G (by k_is);have bO:mg "tuple"=none:=PySem.W.mg_none_of KX G (by k_is);have bf:=Q.mH (x:="ELSEWHERE") KX G (by k_is) (Q.kM (vs:=[L2.V.bl false,L2.V.bl false]) (by k_is) (by decide) (.cons rfl (.cons rfl .nil)) (λ_=>(.cons (.bl _) (.cons (.bl _) .nil))));have aR:=Q.mH (x:="ELSEWHERE_WIPED") KX G (by k_is) (Q.kM (vs:=[L2.V.bl false,L2.V.bl true]) (by k_is) (by decide) (.cons rfl (.cons rfl .nil)) (λ_=>(.cons (.bl _) (.cons (.bl _) .nil))));have fj:∃t,mg "GO_COST"=some (.int 2 t):=⟨_,PySem.W.mg_of KX G (by k_is)⟩
  have dX:=Q.mH (x:="HERE") KX G (by k_is) (Q.kM (vs:=[L2.V.bl true,L2.V.bl false]) (by k_is) (by decide) (.cons rfl (.cons rfl .nil)) (λ_=>(.cons (.bl _) (.cons (.bl _) .nil))));have bj:=Q.mH (x:="HERE_WIPED") KX G (by k_is) (Q.kM (vs:=[L2.V.bl true,L2.V.bl true]) (by k_is) (by decide) (.cons rfl (.cons rfl .nil)) (λ_=>(.cons (.bl _) (.cons (.bl _) .nil))));have mV:∃t,mg "MADE"=some (.str "made" t):=⟨_,PySem.W.mg_of KX G (by k_is)⟩
  have bx:∃t,mg "MOST_ROWS"=some (.int 12 t):=⟨_,PySem.W.mg_of KX G (by k_is)⟩
  have bX:∃t,mg "MOST_SAID"=some (.int 40 t):=⟨_,PySem.W.mg_of KX G (by k_is)⟩
  have bJ:∃t,mg "MOST_WIDTH"=some (.int 40 t):=⟨_,PySem.W.mg_of KX G (by k_is)⟩
  have bP:=Q.mH (x:="NO_ORDERS") KX G (by k_is) (Q.kM (vs:=[L2.V.int 0,L2.V.ref _]) (by k_is) (by decide) (.cons ⟨_,rfl⟩ (.cons rfl .nil)) (λ_=>(.cons (.int _) (.cons (Q.kM (vs:=[]) (by k_is) (by decide) .nil (λ_=>.nil) _) .nil))));have da:∃t,mg "WIPE_COST"=some (.int 1 t):=⟨_,PySem.W.mg_of KX G (by k_is)⟩
  have h66:=Q.bn (x:="_law_cell") (st:=G99.top 66) KX G (by k_is) (by k_is) (by k_is) (by k_is);have h67:=Q.bn (x:="_law_pick") (st:=G99.top 67) KX G (by k_is) (by k_is) (by k_is) (by k_is);have h68:=Q.bn (x:="_law_row") (st:=G99.top 68) KX G (by k_is) (by k_is) (by k_is) (by k_is);have h69:=Q.bn (x:="_law_screen") (st:=G99.top 69) KX G (by k_is) (by k_is) (by k_is) (by k_is);have h70:=Q.bn (x:="_law_some") (st:=G99.top 70) KX G (by k_is) (by k_is) (by k_is) (by k_is);have h8:=Q.bn (x:="is_whole") (st:=G99.top 8) KX G (by k_is) (by k_is) (by k_is) (by k_is);have h9:=Q.bn (x:="is_within") (st:=G99.top 9) KX G (by k_is) (by k_is) (by k_is) (by k_is);have h10:=Q.bn (x:="is_plain") (st:=G99.top 10) KX G (by k_is) (by k_is) (by k_is) (by k_is);have h14:=Q.bn (x:="are_full_rows") (st:=G99.top 14) KX G (by k_is) (by k_is) (by k_is) (by k_is);have h15:=Q.bn (x:="is_place") (st:=G99.top 15) KX G (by k_is) (by k_is) (by k_is) (by k_is);have h16:=Q.bn (x:="is_screen") (st:=G99.top 16) KX G (by k_is) (by k_is) (by k_is) (by k_is);have h17:=Q.bn (x:="check_screen") (st:=G99.top 17) KX G (by k_is) (by k_is) (by k_is) (by k_is);have h54:=Q.bn (x:="row_or_blank") (st:=G99.top 54) KX G (by k_is) (by k_is) (by k_is) (by k_is);have h55:=Q.bn (x:="scrolled") (st:=G99.top 55) KX G (by k_is) (by k_is) (by k_is) (by k_is);have h60:=Q.bn (x:="check_same_size") (st:=G99.top 60) KX G (by k_is) (by k_is) (by k_is) (by k_is);have h61:=Q.bn (x:="alike_rows") (st:=G99.top 61) KX G (by k_is) (by k_is) (by k_is) (by k_is);have h62:=Q.bn (x:="is_blank") (st:=G99.top 62) KX G (by k_is) (by k_is) (by k_is) (by k_is);have h63:=Q.bn (x:="alike_behind_scroll") (st:=G99.top 63) KX G (by k_is) (by k_is) (by k_is) (by k_is);have h64:=Q.FP (x:="scroll_by") (st:=G99.top 64) KX G (by k_is) (by k_is) (by k_is) (by k_is) (by k_is) (by rfl) (by rfl) (by rfl) (by rfl) (by rfl) (by rfl) (by decide) (by decide);have h18:=Q.bn (x:="shown") (st:=G99.top 18) KX G (by k_is) (by k_is) (by k_is) (by k_is);have h19:=Q.bn (x:="are_rows") (st:=G99.top 19) KX G (by k_is) (by k_is) (by k_is) (by k_is);have h20:=Q.bn (x:="check_rows") (st:=G99.top 20) KX G (by k_is) (by k_is) (by k_is) (by k_is);have h21:=Q.bn (x:="full_rows") (st:=G99.top 21) KX G (by k_is) (by k_is) (by k_is) (by k_is);have h31:=Q.bn (x:="order_cost") (st:=G99.top 31) KX G (by k_is) (by k_is) (by k_is) (by k_is);have h41:=Q.bn (x:="plan_cost") (st:=G99.top 41) KX G (by k_is) (by k_is) (by k_is) (by k_is);have h42:=Q.bn (x:="offer") (st:=G99.top 42) KX G (by k_is) (by k_is) (by k_is) (by k_is);have h43:=Q.bn (x:="offer_with_order") (st:=G99.top 43) KX G (by k_is) (by k_is) (by k_is) (by k_is);have h44:=Q.bn (x:="with_moves") (st:=G99.top 44) KX G (by k_is) (by k_is) (by k_is) (by k_is);have h45:=Q.bn (x:="stepped_over") (st:=G99.top 45) KX G (by k_is) (by k_is) (by k_is) (by k_is);have h46:=Q.bn (x:="swept") (st:=G99.top 46) KX G (by k_is) (by k_is) (by k_is) (by k_is);have h47:=Q.bn (x:="cheapest") (st:=G99.top 47) KX G (by k_is) (by k_is) (by k_is) (by k_is);have h48:=Q.bn (x:="plan_from_elsewhere") (st:=G99.top 48) KX G (by k_is) (by k_is) (by k_is) (by k_is);have h49:=Q.bn (x:="plan_from_place") (st:=G99.top 49) KX G (by k_is) (by k_is) (by k_is) (by k_is);have h50:=Q.bn (x:="row_of_place_plan") (st:=G99.top 50) KX G (by k_is) (by k_is) (by k_is) (by k_is);have h26:=Q.bn (x:="is_say") (st:=G99.top 26) KX G (by k_is) (by k_is) (by k_is) (by k_is);have h27:=Q.bn (x:="is_go") (st:=G99.top 27) KX G (by k_is) (by k_is) (by k_is) (by k_is);have h28:=Q.bn (x:="is_order") (st:=G99.top 28) KX G (by k_is) (by k_is) (by k_is) (by k_is);have h29:=Q.bn (x:="check_order") (st:=G99.top 29) KX G (by k_is) (by k_is) (by k_is) (by k_is);have h30:=Q.bn (x:="check_orders") (st:=G99.top 30) KX G (by k_is) (by k_is) (by k_is) (by k_is);have h33:=Q.bn (x:="joined_or_none") (st:=G99.top 33) KX G (by k_is) (by k_is) (by k_is) (by k_is);have h34:=Q.bn (x:="shortened") (st:=G99.top 34) KX G (by k_is) (by k_is) (by k_is) (by k_is);have h51:=Q.bn (x:="least") (st:=G99.top 51) KX G (by k_is) (by k_is) (by k_is) (by k_is);have h32:=Q.bn (x:="cost") (st:=G99.top 32) KX G (by k_is) (by k_is) (by k_is) (by k_is);have h52:=Q.bn (x:="least_cost") (st:=G99.top 52) KX G (by k_is) (by k_is) (by k_is) (by k_is);have h71:=Q.bn (x:="law") (st:=G99.top 71) KX G (by k_is) (by k_is) (by k_is) (by k_is)
  refine' Q.Nv (tq:=([(_,"scroll_by"++".<locals>."++"<lambda>")]:List (Addr×PySem.Str))) ?dl1 ?dl2 (Q.HA h64 KX Q.HD) (G99.He (P:=_) (w:=w) (K:=L2.KOf KX) hmg An ny qT td cM uC aM bc fM AF rz cg ze Aa bO bf aR fj dX bj mV bx bX bJ bP da ?pb ?qK ?kO ?kG ?mq ?ml ?kF ?kz ?Em ?aY h66 h67 h68 h69 h70 h8 h9 h10 h14 h15 h16 h17 h54 h55 h60 h61 h62 h63 h64 h18 h19 h20 h21 h31 h41 h42 h43 h44 h45 h46 h47 h48 h49 h50 h26 h27 h28 h29 h30 h33 h34 h51 h32 h52 ?h58_2 ?h58_3 ?h58_1 ?h58_5 ?h58_9 ?h58_6 ?h58_7 ?h58_0 h71)
  all_goals (try dsimp only[L2.KOf])
  (case dl1=>decide)
  (case dl2=>decide)
  (case pb=>k_is)
  (case kO=>k_is)
  (case mq=>k_is)
  (case kF=>k_is)
  (case qK=>k_exc)
  (case kG=>k_exc)
  (case ml=>k_exc)
  (case kz=>k_exc)
  (case Em=>k_is)
  (case aY=>exact Q.yb 0 (x:="states") (Q.yb 1 (x:="taken_back") (Q.Hc (by decide) (by k_is) (by k_is) (by k_is) (by k_is)) (by decide) rfl (by k_is)) (by decide) rfl (by k_is))
  (case h58_2=>exact Q.jG (st:=(L2.bp (G99.top 58) 2)) (by k_is) (by k_is) (by k_is) (by k_is) (by k_is))
  (case h58_3=>exact Q.jG (st:=(L2.bp (G99.top 58) 3)) (by k_is) (by k_is) (by k_is) (by k_is) (by k_is))
  (case h58_1=>exact Q.jG (st:=(L2.bp (G99.top 58) 1)) (by k_is) (by k_is) (by k_is) (by k_is) (by k_is))
  (case h58_5=>exact Q.jG (st:=(L2.bp (G99.top 58) 5)) (by k_is) (by k_is) (by k_is) (by k_is) (by k_is))
  (case h58_9=>exact Q.jG (st:=(L2.bp (G99.top 58) 9)) (by k_is) (by k_is) (by k_is) (by k_is) (by k_is))
  (case h58_6=>exact Q.jG (st:=(L2.bp (G99.top 58) 6)) (by k_is) (by k_is) (by k_is) (by k_is) (by k_is))
  (case h58_7=>exact Q.jG (st:=(L2.bp (G99.top 58) 7)) (by k_is) (by k_is) (by k_is) (by k_is) (by k_is))
  (case h58_0=>exact Q.FL (st:=(L2.bp (G99.top 58) 0)) (by k_is) (by k_is) (by k_is) (by k_is) (by k_is) (by k_is) (by k_is))
end
end
