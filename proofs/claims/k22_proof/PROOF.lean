import PyProof.Rows.All
import Wide.All
import OpenK.AllK
import Wide.FinOn
import Lean
import PyProof.EqAt
import PyProof.EqKinds
import PyProof.TupleCall
import PyProof.NeKinds
import KE.KDictOf
import PyProof.Rows.TupDisplay
import PyProof.DictItems
import KE.KPairComp
import PyProof.Draws
import KE.KTupSum
import KE.KIntText
import PyProof.Rows.Range3
import PyProof.Rows.FStr
import PyProof.StrCalls2
import PyProof.StrLawsTight
import PyProof.StrLawsIn
import PyProof.StrCalls
import KE.KLam
import KE.KMinKey
import PyProof.Rows.RuleN_abs
import PyProof.Rows.StrCut
import PySem.Challenge.RW_screenlines_k22_whole_least_by_orders
set_option Elab.async false
set_option linter.all false
set_option maxRecDepth 100000
section
variable {us its:List Value} {x qual y0 y1 y2 y3:Str} {u cdv:Value} {a b it f q C bj bf aX a_ELSEWHERE a_HERE a_HERE_WIPED a_ELSEWHERE_WIPED a_NO_ORDERS:Addr} {P:Program} {h h':Heap} {t' i j k kt J:Nat} {ch fp:List Addr} {E:Value->Shared->Prop} {s' s:Shared} {pos p:Pos} {pins:List (Addr×Obj)} {es elts:List Expr} {iter:Expr} {fd:FuncData} {ps loose:List Str} {scope:Scope} {od:Option Addr} {osl:Array (Option Value)} {st:Stmt} {ix old ks:List Nat} {neg fz:Bool}
namespace L2
open PySem PySem.Spec PyProof.Rows
noncomputable abbrev Key:=Sum Int Str
noncomputable def FY:Key->Value->Bool
 | .inl k,v=>Value.isInt k v
 | .inr x,v=>Value.isStrOf x v
noncomputable def KC (w:World):Key->Int
 | .inl k=>hashInt k
 | .inr x=>hashStr w x
theorem bN:∀ {k:Key} {v:Value},FY k v=true->(∃ i t,k=Sum.inl i/\v=Value.int i t)\/(∃ x t,k=Sum.inr x/\v=Value.str x t)
 | .inl i,v,h=>by
  obtain ⟨t,e⟩:=Value.isInt_shape (k:=i) (v:=v) h
  exact .inl ⟨i,t,rfl,e⟩
 | .inr x,v,h=>by
  obtain ⟨t,e⟩:=Value.isStrOf_shape (x:=x) (v:=v) h
  exact .inr ⟨x,t,rfl,e⟩
theorem Fy (a b:Int):decide ((Sum.inl a:Key)=Sum.inl b)=(a==b):=by
 by_cases e:a=b
 ·subst e;simp
 ·have h : ¬ (Sum.inl a:Key)=Sum.inl b:=fun q=>e (Sum.inl.inj q)
  rw [decide_eq_false h]
  exact (beq_eq_false_iff_ne.mpr e).symm
theorem E7 (a b:Str):decide ((Sum.inr a:Key)=Sum.inr b)=decide (a=b):=by
 by_cases e:a=b
 ·subst e;simp
 ·have h : ¬ (Sum.inr a:Key)=Sum.inr b:=fun q=>e (Sum.inr.inj q)
  rw [decide_eq_false h,decide_eq_false e]
theorem Ec (a:Int) (b:Str):decide ((Sum.inl a:Key)=Sum.inr b)=false:=decide_eq_false (fun q=>nomatch q)
theorem E9 (a:Str) (b:Int):decide ((Sum.inr a:Key)=Sum.inl b)=false:=decide_eq_false (fun q=>nomatch q)
noncomputable def sM (prog:Program) (w:World):PySem.KeyKind prog w Key where
 is:=FY
 hash:=KC w
 inj:=fun v a b ha hb=>by
  rcases bN ha with ⟨i,t,rfl,rfl⟩|⟨x,t,rfl,rfl⟩
  ·rcases bN hb with ⟨j,u,rfl,e⟩|⟨y,u,rfl,e⟩
   ·injection e with e1 _;rw [e1]
   ·exact nomatch e
  ·rcases bN hb with ⟨j,u,rfl,e⟩|⟨y,u,rfl,e⟩
   ·exact nomatch e
   ·injection e with e1 _;rw [e1]
 byValue:=fun k v h=>by
  rcases bN h with ⟨i,t,rfl,rfl⟩|⟨x,t,rfl,rfl⟩ <;> rfl
 pyHash:=fun hv h=>by
  rcases bN hv with ⟨i,t,rfl,rfl⟩|⟨x,t,rfl,rfl⟩
  ·exact wpAny_pyHash_int h
  ·exact wpAny_pyHash_str h
 eqBool:=fun hu hv h=>by
  rcases bN hu with ⟨i,t,rfl,rfl⟩|⟨x,t,rfl,rfl⟩
  ·rcases bN hv with ⟨j,u,rfl,rfl⟩|⟨y,u,rfl,rfl⟩
   ·rw [Fy] at h;exact wpAny_eqBool_int h
   ·rw [Ec] at h;exact SeqAt.EqAt.int_str i t y u _ _ _ _ h
  ·rcases bN hv with ⟨j,u,rfl,rfl⟩|⟨y,u,rfl,rfl⟩
   ·rw [E9] at h;exact SeqAt.EqAt.str_int x t j u _ _ _ _ h
   ·rw [E7] at h;exact wpAny_eqBool_str h
 «strs»:=fun k x t v h=>by
  rcases bN h with ⟨i,u,rfl,e⟩|⟨y,u,rfl,e⟩
  ·exact nomatch e
  ·injection e with e1 _
   subst e1
   cases v <;> rfl
inductive V where
 | non|bl (b:Bool)|int (i:Int)|str (x:Str)|byt (b:Array UInt8)|flt (b:UInt64)|ref (a:Addr)|ty (n:String)
 deriving DecidableEq
noncomputable def RelV:V->Value->Prop
 | .non,u=>u=Value.none
 | .bl b,u=>u=Value.bool b
 | .int i,u=>∃ t,u=Value.int i t
 | .str x,u=>∃ t,u=Value.str x t
 | .byt b,u=>∃ t,u=Value.bytes b t
 | .flt b,u=>∃ t,u=Value.float b t
 | .ref a,u=>u=Value.ref a
 | .ty n,u=>u=Value.type n
noncomputable abbrev Vals:List V->List Value->Prop:=Paired RelV
theorem Vals.length {xs:List V} (r:Vals xs us):xs.length=us.length:=Paired.length r
theorem Vals.get:∀ {xs:List V} {us:List Value} {i:Nat} {x:V},Vals xs us->xs[i]?=some x->∃ u,us[i]?=some u/\RelV x u
 | _,_,_,_,.nil,e=>by simp at e
 | _,_,0,_,.cons r _,e=>by simp at e;subst e;exact ⟨_,rfl,r⟩
 | _,_,i+1,x,.cons _ t,e=>by
  obtain ⟨u,h1,h2⟩:=Vals.get (i:=i) (x:=x) t (by simpa using e)
  exact ⟨u,by simpa using h1,h2⟩
theorem Vals.set {x:V} (r:RelV x u):∀ {xs:List V} {us:List Value} (i:Nat),Vals xs us->Vals (xs.set i x) (us.set i u)
 | _,_,_,.nil=>.nil
 | _,_,0,.cons _ t=>.cons r t
 | _,_,i+1,.cons q t=>.cons q (Vals.set r i t)
theorem Vals.append:∀ {xs ys:List V} {us ws:List Value},Vals xs us->Vals ys ws->Vals (xs++ys) (us++ws)
 | _,_,_,_,.nil,s=>s
 | _,_,_,_,.cons r t,s=>.cons r (Vals.append t s)
theorem Vals.take:∀ {xs:List V} {us:List Value} (n:Nat),Vals xs us->Vals (xs.take n) (us.take n)
 | _,_,0,_=>.nil
 | _,_,_+1,.nil=>.nil
 | _,_,n+1,.cons r t=>.cons r (Vals.take n t)
theorem Vals.drop:∀ {xs:List V} {us:List Value} (n:Nat),Vals xs us->Vals (xs.drop n) (us.drop n)
 | _,_,0,r=>r
 | _,_,_+1,.nil=>.nil
 | _,_,n+1,.cons _ t=>Vals.drop n t
noncomputable def RelO:Option V->Option Value->Prop
 | some v,some u=>RelV v u
 | none,none=>True
 | _,_=>False
noncomputable def KV {κ:Type}:List (κ×V)->List (κ×Value)->Prop:=Paired fun (p:κ×V) (q:κ×Value)=>p.1=q.1/\RelV p.2 q.2
noncomputable def kV:Key->V
 | .inl i=>.int i
 | .inr x=>.str x
inductive HO where
  /-- a list -/
  | lst (xs : List V)
  /-- a tuple (never changes) -/
  | tup (xs : List V)
  /-- a dict whose keys are ints and texts; one whose keys are tuples of ints and texts (the empty one is both) -/
  | dK (kvs : List (Key × V)) | dT (kvs : List (List Key × V))
  /-- a set of ints: its members, its size -/
  | set (S : Int -> Bool) (n : Nat)
  /-- an instance of the class at C, its dict at dx, its attributes -/
  | ins (C dx : Addr) (fs : List (Str × V))
  /-- the dict of the instance at x -/
  | own (x : Addr)
  /-- the dict of an exception -/
  | xd (fs : List (Str × V))
  /-- a bound method, f of x -/
  | met (f x : Addr)
  /-- a range object lo, lo + 1, .. below hi -/
  | rng (lo hi : Int)
  /-- a thing that is known to the object (the script; a dict while a loop walks it): read, never written while it is so -/
  | frz (o : Obj) (u : HO)
  /-- a code object's table -/
  | tbl (ps : Array Value)
  /-- any other thing, by what is true of its one object (a def of one's own: SetO a S n := HO.ext fun h => ..) -/
  | ext (φ : Heap -> Prop)

noncomputable abbrev Hp:=Addr->Option HO
noncomputable def upd (H:Hp) (a:Addr) (o:HO):Hp:=fun b=>if b=a then some o else H b
theorem aS {H:Hp} {o:HO}:upd H a o a=some o:=by unfold upd;rw [if_pos rfl]
theorem aK {H:Hp} {o:HO} (h:b≠a):upd H a o b=H b:=by unfold upd;rw [if_neg h]
theorem aF {H:Hp} {o:HO} (h:H a=some o) (h':H b=none):a≠b:=by
 intro e;subst e;rw [h] at h';cases h'
noncomputable def Fb (ps:Array Value):Str:=match ps.toList with
 | .str q _::_=>q
 | _=>Str.empty
section
variable (P:Program) (w:World)
noncomputable def ObjOk (H:Hp) (h:Heap) (a:Addr):HO->Prop
 | .lst xs=>xs.length<=sizeLine/\∃ (its:List Value) (n:Nat),Vals xs its/\h.get? a=some { cls:=.type "list",data:=.seq its.toArray n }
 | .tup xs=>xs.length<=sizeLine/\∃ its:List Value,Vals xs its/\IsTup h a its.toArray
 | .dK kvs=>kvs.length<=sizeLine/\(a==sysModules)=false/\∃ vs,KV kvs vs/\h.DictOf (sM P w) a vs
 | .dT kvs=>kvs.length<=sizeLine/\(a==sysModules)=false/\∃ xs:List (List Key×Addr×Value),
   Paired (fun (p:List Key×V) (q:List Key×Addr×Value)=>p.1=q.1/\H q.2.1=some (.tup (p.1.map kV))/\RelV p.2 q.2.2) kvs xs/\
   ∃ o es ep,h.get? a=some o/\o.ExactDict/\o.data=.dict es ep/\es.toList=xs.map (entryOfKey (tupleKind (sM P w)))/\(xs.map (·.1)).Nodup
 | .set S n=>h.SetOf (intKind P w) a S n
 | .ins C dx fs=>H dx=some (.own a)/\fs.length<=1000/\dx≠a/\h.get? a=some (W.instObj C dx)/\
   ∃ mA,h.Ns1 dx mA/\(∀ f,RelO (fs.lookup f) (mA f))/\PySem.Within mA (fs.map (·.1))
 | .own _=>∃ o,h.get? a=some o
 | .xd fs=>∃ mA,h.Ns1 a mA/\∀ f,RelO (fs.lookup f) (mA f)
 | .rng lo hi=>∃ t u v,h.get? a=some { cls:=.type "range",data:=.fields #[.int lo t,.int hi u,.int 1 v] }
 | .frz o u=>h.get? a=some o/\ObjOk H h a u
 | .tbl ps=>∃ qs:Array Value,h.get? a=some { cls:=.none,data:=.fields qs }/\TriplesOk qs.toList/\∀ (pos:Pos) (cv:Value),codeAmong pos qs.toList=some cv->∃ c o vs t,cv=.ref c/\H c=some (.frz o (.own a))/\o.data=.fields vs/\vs[1]?=some (.str (Fb ps) t)
 | .met f x=>h.get? a=some (W.methodObj (.ref f) (.ref x))
 | .ext φ=>φ h/\(∃ o,h.get? a=some o)/\∀ h1 h2:Heap,φ h1->(∀ o,h1.get? a=some o->h2.get? a=some o)->φ h2
noncomputable def HOk (H:Hp) (h:Heap):Prop:=∀ a o,H a=some o->ObjOk P w H h a o
end
section
variable {P:Program} {w:World} {H H':Hp} {h h':Heap} {a:Addr} {o:HO}
theorem ObjOk.lt (x:ObjOk P w H h a o):a<h.objs.size:=by
 cases o with
 | lst xs=>obtain ⟨_,_,_,_,e⟩:=x;exact Heap.lt_size e
 | tup xs=>obtain ⟨_,_,_,p⟩:=x;exact p.lt
 | dK kvs=>obtain ⟨_,_,_,_,o,_,_,e,_⟩:=x;exact Heap.lt_size e
 | dT kvs=>obtain ⟨_,_,_,_,o,_,_,e,_⟩:=x;exact Heap.lt_size e
 | set S n=>obtain ⟨o,_,_,_,e,_⟩:=x;exact Heap.lt_size e
 | ins C dx fs=>obtain ⟨_,_,_,e,_⟩:=x;exact Heap.lt_size e
 | own y=>obtain ⟨_,e⟩:=x;exact Heap.lt_size e
 | xd fs=>obtain ⟨_,⟨_,_,_,e,_⟩,_⟩:=x;exact Heap.lt_size e
 | rng lo hi=>obtain ⟨_,_,_,e⟩:=x;exact Heap.lt_size e
 | frz ob u=>obtain ⟨e,_⟩:=x;exact Heap.lt_size e
 | tbl ps=>obtain ⟨_,e,_⟩:=x;exact Heap.lt_size e
 | met f y=>exact Heap.lt_size (show h.get? a=some _ from x)
 | ext φ=>obtain ⟨_,⟨_,e⟩,_⟩:=x;exact Heap.lt_size e
theorem Paired.mapP {α β:Type} {F G:α->β->Prop}:∀ {l₁:List α} {l₂:List β},Paired F l₁ l₂->(∀ a b,F a b->G a b)->Paired G l₁ l₂
 | _,_,.nil,_=>.nil
 | _,_,.cons r t,f=>.cons (f _ _ r) (Paired.mapP t f)
theorem ObjOk.stay (x:ObjOk P w H h a o) (k:∀ b u,(b=a\/H b=some (.own a))->h.get? b=some u->h'.get? b=some u)
 (ho:∀ b,H b=some (.own a)->H' b=some (.own a)) (ht:∀ b xs,H b=some (.tup xs)->H' b=some (.tup xs)) (hz:∀ b o u,H b=some (.frz o u)->H' b=some (.frz o u):=by exact fun _ _ _ q=>q):ObjOk P w H' h' a o:=by
 induction o with
 | lst xs=>obtain ⟨z,its,n,r,e⟩:=x;exact ⟨z,its,n,r,k _ _ (.inl rfl) e⟩
 | tup xs=>obtain ⟨z,its,r,ob,e,c⟩:=x;exact ⟨z,its,r,ob,k _ _ (.inl rfl) e,c⟩
 | dK kvs=>obtain ⟨z,y,vs,r,ob,es,ep,e,c⟩:=x;exact ⟨z,y,vs,r,ob,es,ep,k _ _ (.inl rfl) e,c⟩
 | dT kvs=>
  obtain ⟨z,y,xs,r,ob,es,ep,e,c⟩:=x
  exact ⟨z,y,xs,Paired.mapP r fun p q z=>⟨z.1,ht _ _ z.2.1,z.2.2⟩,ob,es,ep,k _ _ (.inl rfl) e,c⟩
 | set S n=>obtain ⟨ob,es,ep,t,e,c⟩:=x;exact ⟨ob,es,ep,t,k _ _ (.inl rfl) e,c⟩
 | ins C dx fs=>
  obtain ⟨d,z,ne,e,mA,⟨od,es,ep,e2,c⟩,r⟩:=x
  exact ⟨ho _ d,z,ne,k _ _ (.inl rfl) e,mA,⟨od,es,ep,k _ _ (.inr d) e2,c⟩,r⟩
 | own y=>obtain ⟨ob,e⟩:=x;exact ⟨ob,k _ _ (.inl rfl) e⟩
 | xd fs=>obtain ⟨mA,⟨od,es,ep,e,c⟩,r⟩:=x;exact ⟨mA,⟨od,es,ep,k _ _ (.inl rfl) e,c⟩,r⟩
 | rng lo hi=>obtain ⟨t,u,v,e⟩:=x;exact ⟨t,u,v,k _ _ (.inl rfl) e⟩
 | frz ob u ih=>obtain ⟨e,q⟩:=x;exact ⟨k _ _ (.inl rfl) e,ih q⟩
 | tbl ps=>
  obtain ⟨qs,e,tr,c⟩:=x
  refine ⟨qs,k _ _ (.inl rfl) e,tr,fun pos cv q=>?_⟩
  obtain ⟨c',o',vs,tk,e1,e2,e3⟩:=c pos cv q
  exact ⟨c',o',vs,tk,e1,hz _ _ _ e2,e3⟩
 | met f y=>
  have e:h.get? a=some (W.methodObj (.ref f) (.ref y)):=x
  show h'.get? a=some (W.methodObj (.ref f) (.ref y))
  exact k a _ (.inl rfl) e
 | ext φ=>obtain ⟨p,⟨o,e⟩,st⟩:=x;exact ⟨st _ _ p fun o q=>k _ _ (.inl rfl) q,⟨o,k _ _ (.inl rfl) e⟩,st⟩
theorem HOk.lt (x:HOk P w H h) (e:H a=some o):a<h.objs.size:=(x a o e).lt
theorem HOk.fresh (x:HOk P w H h) (e:h.objs.size<=a):H a=none:=by
 cases q:H a with
 | none=>rfl
 | some u=>exact absurd (Nat.lt_of_lt_of_le (x.lt q) e) (Nat.lt_irrefl _)
theorem HOk.kept (x:HOk P w H h) (k:∀ b u,h.get? b=some u->h'.get? b=some u):HOk P w H h':=fun a o e=>
 (x a o e).stay (fun b u _ q=>k b u q) (fun _ q=>q) fun _ _ q=>q
theorem HOk.laid (x:HOk P w H h) (k:∀ b u,h.get? b=some u->h'.get? b=some u) (hp:h.objs.size<=a) (new:ObjOk P w (upd H a o) h' a o):HOk P w (upd H a o) h':=fun b u e=>by
 have hn:=x.fresh hp
 by_cases hb:b=a
 ·subst hb;rw [aS] at e;cases e;exact new
 ·rw [aK hb] at e
  exact (x b u e).stay (fun c v _ q=>k c v q) (fun c q=>by rw [aK (aF q hn)];exact q) (fun c xs q=>by rw [aK (aF q hn)];exact q) fun c ob u q=>by rw [aK (aF q hn)];exact q
end
noncomputable def Rd (H:Hp) (a:Addr) (u:HO):Prop:=H a=some u\/∃ o,H a=some (.frz o u)
theorem Rd.ok {w:World} {H:Hp} {u:HO} (r:Rd H a u) (x:HOk P w H h):ObjOk P w H h a u:=by
 rcases r with r|⟨o,r⟩
 ·exact x a u r
 ·obtain ⟨_,q⟩:=x a _ r
  exact q
noncomputable def Mut:Option HO->Prop
 | some (.lst _)=>True
 | some (.dK _)=>True
 | some (.dT _)=>True
 | some (.set _ _)=>True
 | some (.ins _ _ _)=>True
 | some (.ext _)=>True
 | _=>False
section
variable {P:Program} {w:World} {H:Hp} {h h':Heap} {x e:Addr} {o':HO}
theorem HOk.write (ok:HOk P w H h) (mu:Mut (H x)) (he:e=x\/H e=some (.own x)) (k:∀ b u,b≠e->h.get? b=some u->h'.get? b=some u) (heo:∃ u,h'.get? e=some u)
 (new:ObjOk P w (upd H x o') h' x o'):HOk P w (upd H x o') h':=fun b u q=>by
 have nown:∀ c y,H c=some (.own y)->c≠x:=fun c y r z=>by subst z;rw [r] at mu;exact mu
 have ntup:∀ c xs,H c=some (.tup xs)->c≠x:=fun c xs r z=>by subst z;rw [r] at mu;exact mu
 have nfrz:∀ c ob u,H c=some (.frz ob u)->c≠x:=fun c ob u r z=>by subst z;rw [r] at mu;exact mu
 by_cases hb:b=x
 ·subst hb;rw [aS] at q;cases q;exact new
 ·rw [aK hb] at q
  by_cases hbe:b=e
  ·have q':H b=some (.own x):=by
    rcases he with z|z
    ·exact absurd (hbe.trans z) hb
    ·rw [hbe];exact z
   rw [q] at q';cases q'
   obtain ⟨v,hv⟩:=heo
   exact ⟨v,by rw [hbe];exact hv⟩
  ·refine (ok b u q).stay (fun c v hc r=>k c v ?_ r) (fun c r=>by rw [aK (nown c b r)];exact r) (fun c xs r=>by rw [aK (ntup c xs r)];exact r) fun c ob u r=>by rw [aK (nfrz c ob u r)];exact r
   rcases hc with rfl|hc
   ·exact hbe
   ·rintro rfl
    rcases he with z|z
    ·exact nown c b hc z
    ·rw [hc] at z;cases z;exact hb rfl
end
structure Un (fs ex:List Addr) (H H':Hp) (h h':Heap):Prop where
 keep:∀ b o,h.get? b=some o->H b=none->b ∉ fs->b ∉ ex->h'.get? b=some o
 slot:∀ b o,h.get? b=some o->H b=none->b∈fs->b ∉ ex->∃ sl,h'.get? b=some { o with slots:=sl }
 free:∀ b o,h.get? b=some o->H b=none->b ∉ ex->H' b=none
 there:∀ b o,h.get? b=some o->b ∉ ex->∃ o',h'.get? b=some o'
 tups:∀ b xs,H b=some (.tup xs)->H' b=some (.tup xs)
 frzs:∀ b o u,H b=some (.frz o u)->H' b=some (.frz o u)
 tbls:∀ b ps,H b=some (.tbl ps)->∃ more,H' b=some (.tbl (ps++more))
section
variable {fs fs' ex ex':List Addr} {H H1 H2:Hp} {h h1 h2 h':Heap} {a x e:Addr} {o:HO}
theorem Un.any (u:Un fs ex H H1 h h1) {ob:Obj} (q:h.get? b=some ob) (n:H b=none) (hx:b ∉ ex):∃ sl,h1.get? b=some { ob with slots:=sl }:=by
 by_cases hb:b∈fs
 ·exact u.slot b ob q n hb hx
 ·exact ⟨ob.slots,u.keep b ob q n hb hx⟩
theorem Un.kept (k:∀ b u,h.get? b=some u->h'.get? b=some u):Un fs ex H H h h':=
 ⟨fun b ob q _ _ _=>k b ob q,fun b ob q _ _ _=>⟨ob.slots,k b ob q⟩,fun _ _ _ n _=>n,fun b ob q _=>⟨ob,k b ob q⟩,fun _ _ q=>q,fun _ _ _ q=>q,fun _ ps q=>⟨#[],by rw [q];simp⟩⟩
theorem Un.refl:Un fs ex H H h h:=Un.kept fun _ _ q=>q
theorem Un.laid (k:∀ b u,h.get? b=some u->h'.get? b=some u) (hp:h.objs.size<=a) (hn:H a=none):Un fs ex H (upd H a o) h h' where
 keep:=fun b u q _ _ _=>k b u q
 slot:=fun b u q _ _ _=>⟨u.slots,k b u q⟩
 free:=fun b u q n _=>by rw [aK (Nat.ne_of_lt (Nat.lt_of_lt_of_le (Heap.lt_size q) hp))];exact n
 there:=fun b u q _=>⟨u,k b u q⟩
 tups:=fun b xs q=>by rw [aK (aF q hn)];exact q
 frzs:=fun b u xs q=>by rw [aK (aF q hn)];exact q
 tbls:=fun b ps q=>⟨#[],by rw [aK (aF q hn),q];simp⟩
theorem Un.write (mu:Mut (H x)) (he:e=x\/H e=some (.own x)) (k:∀ b u,b≠e->h.get? b=some u->h'.get? b=some u) (heo:∃ u,h'.get? e=some u):Un fs ex H (upd H x o) h h':=by
 have hx:∀ b,H b=none->b≠x:=fun b n z=>by subst z;rw [n] at mu;exact mu
 have hb:∀ b,H b=none->b≠e:=fun b n z=>by
  subst z
  rcases he with r|r
  ·exact hx b n r
  ·rw [n] at r;cases r
 have hm:∀ b u,H b=some u->¬ Mut (some u)->b≠x:=fun b u q nm z=>by subst z;rw [q] at mu;exact nm mu
 refine ⟨fun b u q n _ _=>k b u (hb b n) q,fun b u q n _ _=>⟨u.slots,k b u (hb b n) q⟩,fun b u q n _=>by rw [aK (hx b n)];exact n,fun b u q _=>?_,
  fun b xs q=>by rw [aK (hm b _ q fun z=>z)];exact q,fun b u xs q=>by rw [aK (hm b _ q fun z=>z)];exact q,fun b ps q=>⟨#[],by rw [aK (hm b _ q fun z=>z),q];simp⟩⟩
 by_cases hbe:b=e
 ·subst hbe;exact heo
 ·exact ⟨u,k b u hbe q⟩
end
noncomputable def Bi:HO->Value
 | .tbl ps=>if ps.size=1 then ps.getD 0 .none else .none
 | _=>.none
noncomputable def D4 (H:Hp) (b:Addr) (o:Obj):Obj:=match H b with
 | none=>(match o.data with|.freed=>⟨.none,none,.freed,#[]⟩|_=>o)
 | some u=>⟨Bi u,none,.freed,#[]⟩
noncomputable def zt (h:Heap) (H:Hp):Heap:=⟨h.objs.mapIdx fun b o=>D4 H b o,h.life⟩
theorem xV (h:Heap) (H:Hp):(zt h H).objs.size=h.objs.size:=Array.size_mapIdx
theorem get_objs {o:Obj}:h.get? b=some o ↔ h.objs[b]?=some o/\o.data ≠ .freed:=by
 unfold Heap.get?
 constructor
 ·intro e
  split at e
  ·cases e
  ·rename_i z
   refine ⟨e,fun q=>?_⟩
   obtain ⟨a,b,c,d⟩:=o
   cases q
   exact z _ _ _ e
 ·rintro ⟨e,n⟩
  rw [e]
  obtain ⟨a,b,c,d⟩:=o
  split
  ·rename_i q
   cases q
   exact absurd rfl n
  ·rfl
theorem my (h:Heap) (H:Hp) (b:Addr):(zt h H).objs[b]?=(h.objs[b]?).map (D4 H b):=Array.getElem?_mapIdx
theorem AG {H:Hp} {o:Obj} (e:h.get? b=some o) (n:H b=none):(zt h H).get? b=some o:=by
 obtain ⟨e1,e2⟩:=get_objs.1 e
 have z:D4 H b o=o:=by
  unfold D4
  rw [n]
  cases q:o.data <;> first|rfl|exact absurd q e2
 exact get_objs.2 ⟨by rw [my,e1,Option.map_some,z],e2⟩
theorem B2 {H:Hp} {o:Obj} (e:(zt h H).get? b=some o):h.get? b=some o/\H b=none:=by
 obtain ⟨e1,e2⟩:=get_objs.1 e
 rw [my] at e1
 cases q:h.objs[b]? with
 | none=>rw [q] at e1;cases e1
 | some o'=>
  rw [q,Option.map_some] at e1
  have e1:=Option.some.inj e1
  unfold D4 at e1
  cases hq:H b with
  | none=>
   rw [hq] at e1
   dsimp only at e1
   split at e1
   ·rw [<- e1] at e2;exact absurd rfl e2
   ·exact ⟨get_objs.2 ⟨by rw [q,e1],e2⟩,rfl⟩
  | some u=>rw [hq] at e1;dsimp only at e1;rw [<- e1] at e2;exact absurd rfl e2
noncomputable def GR (base:Heap) (p:Addr) (q:Str):Prop:=base.objs[p]?=some ⟨.str q 0,none,.freed,#[]⟩
noncomputable def TabsIn (base:Heap) (H:Hp):Prop:=∀ p q,GR base p q->∃ more,H p=some (.tbl (#[.str q 0]++more))
theorem wX (h : Heap) (H : Hp) : TabsIn (zt h H) H := fun p q e => by
  unfold GR at e
  rw [my] at e
  cases z : h.objs[p]? with
  | none => rw [z] at e; cases e
  | some o =>
    rw [z, Option.map_some] at e
    have e := Option.some.inj e
    unfold D4 at e
    cases hq : H p with
    | none =>
      rw [hq] at e
      dsimp only at e
      split at e
      · cases e
      · rename_i n; rw [e] at n; exact absurd rfl n
    | some u =>
      rw [hq] at e
      have e := congrArg Obj.cls e
      cases u with
      | tbl ps =>
        dsimp only [Bi] at e
        split at e
        · rename_i n
          refine ⟨#[], ?_⟩
          obtain ⟨l⟩ := ps
          match l, n with
          | [v], _ => have : v = .str q 0 := e
                      rw [this]; rfl
        · cases e
      | _ => cases e
theorem TabsIn.un {base:Heap} {fs ex:List Addr} {H H':Hp} (t:TabsIn base H) (u:Un fs ex H H' h h'):TabsIn base H':=fun p q e=>by
 obtain ⟨m1,z⟩:=t p q e
 obtain ⟨m2,z⟩:=u.tbls p _ z
 exact ⟨m1++m2,by rw [z,Array.append_assoc]⟩
noncomputable def C3 (g h:Heap) (L:Addr):List (Addr×Obj):=(List.range h.objs.size).filterMap fun a=>if a=L\/(g.get? a).isSome=true then none else (h.get? a).map fun o=>(a,o)
noncomputable def cG (g h:Heap) (L d:Addr):List (Addr×Obj):=(C3 g h L).filter fun p=>decide (p.1≠d)
end L2
variable {xs vs:List L2.V} {H H' G G₀:L2.Hp} {v:L2.V} {sq:L2.Hp->List L2.V->Prop}
namespace L2
open PySem PySem.Spec PyProof.Rows
structure Mod (K:W.Frag) (mg:Str->Option Value) (base:Heap):Prop where
 kin:K.In base
 glob:base.Ns mainGlobals mg
 blt:∃ mb,base.Ns builtinsNs mb/\∀ x:Str,x ≠ "__name__"->mb x=bootBuiltins x
 nolimit:base.NoLimit
structure Cx where
 prog:Program
 w:World
 K:W.Frag
 mg:Str->Option Value
 base:Heap
 A:Around
 N:List Str
 s₀:Shared
 H₀:Hp
 env:Env
 outer:List Env
 stack:List Env
 ex:List Addr
 fn:Str->Bool
 calm:Bool
 pn:List (Addr×Obj)
 xe:Value->Shared->Prop
noncomputable def frs (l:List Env):List Addr:=l.filterMap (·.frame)
noncomputable abbrev Cx.fs (X:Cx):List Addr:=frs X.outer
noncomputable def Vis (sc:Scope) (x:Str):Prop:=sc.names.lookup x=some .local\/sc.names.lookup x=some .cell\/sc.names.lookup x=some .free
noncomputable def Loc (sc:Scope) (x:Str):Prop:=sc.names.lookup x=some .local\/sc.names.lookup x=some .cell
noncomputable def Lc (env:Env) (h:Heap) (m:Str->Option Value) (x:Str) (u:Value):Prop:=
 (env.kindOf x=some .local/\m x=some u)\/((env.kindOf x=some .cell\/env.kindOf x=some .free)/\∃ c,env.cells.lookup x=some c/\h.IsCell c (some u))
structure Cx.Ok (X:Cx):Prop where
 mod:Mod X.K X.mg X.base
 kind:X.env.scope.kind=.function
 glob:X.env.globals=mainGlobals
 blt:X.env.builtins=builtinsNs
 above:X.s₀.heap.objs.size<=X.env.locals
 inj:∀ x y c,X.env.cells.lookup x=some c->X.env.cells.lookup y=some c->x=y
 has:∀ x,(X.env.kindOf x=some .cell\/X.env.kindOf x=some .free)->∃ c,X.env.cells.lookup x=some c
 cab:∀ x c,X.fn x=true->X.env.cells.lookup x=some c->X.s₀.heap.objs.size<=c
 hd:X.calm=true->X.A.handled=none
 frames:X.A.frames=some X.stack
 stk:X.stack=X.outer\/(X.stack=X.env::X.outer/\X.env.frame=some X.env.locals)
 exf:∀ b∈X.ex,b≠X.env.locals/\∀ x c,X.env.cells.lookup x=some c->c≠b
 bs:∀ b o,X.base.get? b=some o->X.s₀.heap.get? b=some o/\X.H₀ b=none
 bsz:X.base.objs.size<=X.s₀.heap.objs.size
 noex:∀ b o,X.base.get? b=some o->b ∉ X.ex
 exfs:∀ b∈X.ex,b ∉ X.fs
 funs:X.s₀.heap.FunFrames X.base X.outer
 frf:∀ b∈X.fs,X.H₀ b=none
 tabs:TabsIn X.base X.H₀
structure Inv (X:Cx) (pins:List (Addr×Obj)) (σ:List (Option V)) (H:Hp) (s:Shared):Prop where
 ok:X.Ok
 os:s.os=X.s₀.os
 bare:AllBare s.gens
 base:Un X.fs X.ex X.H₀ H X.s₀.heap s.heap
 loc:∃ m,s.heap.Ns X.env.locals m/\∀ (i:Nat) (x:Str) (v:V),X.N[i]?=some x->σ[i]?=some (some v)->Vis X.env.scope x->∃ u,RelV v u/\Lc X.env s.heap m x u
 cell:∀ x c,X.env.cells.lookup x=some c->∃ v,s.heap.IsCell c v
 free:H X.env.locals=none
 freeC:∀ x c,X.env.cells.lookup x=some c->H c=none
 pin:∀ p∈X.pn++pins,s.heap.get? p.1=some p.2/\H p.1=none/\p.1≠X.env.locals/\p.1 ∉ X.fs/\∀ v,p.2.data ≠ .cell v
 hok:HOk X.prog X.w H s.heap
 len:σ.length=X.N.length
section
variable {X:Cx} {pins:List (Addr×Obj)} {σ:List (Option V)} {H H':Hp} {s:Shared} {h':Heap}
theorem Cx.Ok.nofr (ok:X.Ok) {o:Obj} (e:X.base.get? b=some o):b ∉ X.fs:=fun hb=>by
 have:=(ok.funs.mem hb).1
 rw [e] at this;cases this
theorem Inv.bs (I:Inv X pins σ H s):∀ b o,X.base.get? b=some o->s.heap.get? b=some o/\H b=none:=fun b o e=>
 ⟨I.base.keep b o (I.ok.bs b o e).1 (I.ok.bs b o e).2 (I.ok.nofr e) (I.ok.noex b o e),I.base.free b o (I.ok.bs b o e).1 (I.ok.bs b o e).2 (I.ok.noex b o e)⟩
theorem Inv.bk (I:Inv X pins σ H s):∀ b o,X.base.get? b=some o->s.heap.get? b=some o:=fun b o e=>(I.bs b o e).1
theorem Inv.mod (I:Inv X pins σ H s):Mod X.K X.mg X.base:=I.ok.mod
theorem Inv.kIn (I:Inv X pins σ H s):X.K.In s.heap:=I.ok.mod.kin.keeps I.bk
theorem Inv.lt (I:Inv X pins σ H s):X.env.locals<s.heap.objs.size:=let ⟨_,hn,_⟩:=I.loc;hn.lt
theorem Inv.sz (I:Inv X pins σ H s):X.s₀.heap.objs.size<=s.heap.objs.size:=Nat.le_trans I.ok.above (Nat.le_of_lt I.lt)
theorem Inv.nofs (I:Inv X pins σ H s) (h:s.heap.objs.size<=a):a ∉ X.fs:=fun hb=>by
 obtain ⟨_,o,ho,_⟩:=I.ok.funs.mem hb
 exact absurd (Nat.lt_of_lt_of_le (Heap.lt_size ho) (Nat.le_trans I.sz h)) (Nat.lt_irrefl _)
theorem Inv.cne (I:Inv X pins σ H s):∀ x c,X.env.cells.lookup x=some c->c≠X.env.locals:=fun x c e z=>by
 obtain ⟨v,o,ho,hd⟩:=I.cell x c e
 obtain ⟨m,⟨o',es,ep,ho',hd',_⟩,_⟩:=I.loc
 rw [z,ho'] at ho;cases ho;rw [hd'] at hd;cases hd
theorem Inv.funs (I:Inv X pins σ H s):s.heap.FunFrames X.base X.outer:=by
 have all:∀ (l:List Env),(∀ b∈frs l,b∈X.fs)->X.s₀.heap.FunFrames X.base l->s.heap.FunFrames X.base l:=by
  intro l
  induction l with
  | nil=>intro _ _;trivial
  | cons env r ih=>
   intro hs hl
   obtain ⟨hk,⟨L,o,hf,hn,ho,hd⟩,hr⟩:=hl
   have hL:L∈X.fs:=hs L (by unfold frs;rw [List.filterMap_cons,hf];exact List.mem_cons_self)
   obtain ⟨sl,e⟩:=I.base.slot L o ho (I.ok.frf L hL) hL fun z=>I.ok.exfs L z hL
   exact ⟨hk,⟨L,_,hf,hn,e,hd⟩,ih (fun b hb=>hs b (by unfold frs;rw [List.filterMap_cons,hf];exact List.mem_cons_of_mem _ hb)) hr⟩
 exact all X.outer (fun _ hb=>hb) I.ok.funs
theorem Inv.stack (I:Inv X pins σ H s):s.heap.FunFrames X.base X.stack:=by
 rcases I.ok.stk with e|⟨e,hf⟩
 ·rw [e];exact I.funs
 ·rw [e]
  obtain ⟨m,hn,_⟩:=I.loc
  refine .cons (by rw [I.ok.kind];decide) hf hn ?_ I.funs
  exact Heap.get?_none_of_le (Nat.le_trans I.ok.bsz I.ok.above)
theorem Inv.stkSub (I:Inv X pins σ H s):∀ b∈frs X.stack,b∈X.env.locals::X.fs:=fun b hb=>by
 rcases I.ok.stk with e|⟨e,hf⟩
 ·rw [e] at hb;exact List.mem_cons_of_mem _ hb
 ·rw [e] at hb
  unfold frs at hb
  rw [List.filterMap_cons,hf] at hb
  exact hb
theorem Inv.stkFree (I:Inv X pins σ H s):∀ b∈frs X.stack,H b=none:=fun b hb=>by
 rcases List.mem_cons.mp (I.stkSub b hb) with e|hb
 ·rw [e];exact I.free
 ·obtain ⟨_,o,ho,_⟩:=I.ok.funs.mem hb
  exact I.base.free b o ho (I.ok.frf b hb) fun z=>I.ok.exfs b z hb
theorem Inv.step {g':Array GenState} {t':Nat} {d':Drawn} (I:Inv X pins σ H s)
 (hch:∀ b∈ch,(b∈X.ex\/X.s₀.heap.objs.size<=b)/\b≠X.env.locals/\(∀ x c,X.env.cells.lookup x=some c->c≠b)/\∀ p∈X.pn++pins,p.1≠b)
 (keep:∀ b o,b≠X.env.locals->b ∉ X.fs->b ∉ ch->s.heap.get? b=some o->H b=none->h'.get? b=some o)
 (slot:∀ b o,b≠X.env.locals->b∈X.fs->b ∉ ch->s.heap.get? b=some o->H b=none->∃ sl,h'.get? b=some { o with slots:=sl }) (free:∀ b o,b ∉ ch->s.heap.get? b=some o->H b=none->H' b=none)
 (there:∀ b o,b ∉ ch->s.heap.get? b=some o->∃ o',h'.get? b=some o')
 (tups:∀ b xs,H b=some (.tup xs)->H' b=some (.tup xs)) (frzs:∀ b o u,H b=some (.frz o u)->H' b=some (.frz o u)) (tbls:∀ b ps,H b=some (.tbl ps)->∃ more,H' b=some (.tbl (ps++more)))
 (ns:∀ m,s.heap.Ns X.env.locals m->h'.Ns X.env.locals m) (hok:HOk X.prog X.w H' h') (hg:AllBare g') :
  Inv X pins σ H' { s with heap:=h',gens:=g',drawn:=d',toks:=t' }:=by
 have neL:∀ b o,X.s₀.heap.get? b=some o->b≠X.env.locals:=fun b o e=>Nat.ne_of_lt (Nat.lt_of_lt_of_le (Heap.lt_size e) I.ok.above)
 have neC:∀ b o,X.s₀.heap.get? b=some o->b ∉ X.ex->b ∉ ch:=fun b o e hx hb=>by
  rcases (hch b hb).1 with z|z
  ·exact hx z
  ·exact absurd (Nat.lt_of_lt_of_le (Heap.lt_size e) z) (Nat.lt_irrefl _)
 have cellK:∀ x c,X.env.cells.lookup x=some c->∀ v,s.heap.IsCell c v->h'.IsCell c v:=fun x c e v ⟨o,ho,hd⟩=>by
  have nch:c ∉ ch:=fun z=>(hch c z).2.2.1 x c e rfl
  by_cases hc:c∈X.fs
  ·obtain ⟨sl,q⟩:=slot c o (I.cne x c e) hc nch ho (I.freeC x c e)
   exact ⟨_,q,hd⟩
  ·exact ⟨o,keep c o (I.cne x c e) hc nch ho (I.freeC x c e),hd⟩
 refine ⟨I.ok,I.os,hg,⟨fun b o e n hb hx=>?_,fun b o e n hb hx=>?_,fun b o e n hx=>?_,fun b o e hx=>?_,fun b xs e=>tups b xs (I.base.tups b xs e),fun b o xs e=>frzs b o xs (I.base.frzs b o xs e),fun b ps e=>?_⟩,?_,fun x c e=>?_,?_,fun x c e=>?_,fun p hp=>?_,hok,I.len⟩
 ·exact keep b o (neL b o e) hb (neC b o e hx) (I.base.keep b o e n hb hx) (I.base.free b o e n hx)
 ·obtain ⟨sl,e1⟩:=I.base.slot b o e n hb hx
  obtain ⟨sl',e2⟩:=slot b _ (neL b o e) hb (neC b o e hx) e1 (I.base.free b o e n hx)
  exact ⟨sl',e2⟩
 ·obtain ⟨o',e1⟩:=I.base.there b o e hx
  exact free b o' (neC b o e hx) e1 (I.base.free b o e n hx)
 ·obtain ⟨o',e1⟩:=I.base.there b o e hx
  exact there b o' (neC b o e hx) e1
 ·obtain ⟨m1,e1⟩:=I.base.tbls b ps e
  obtain ⟨m2,e2⟩:=tbls b _ e1
  exact ⟨m1++m2,by rw [e2,Array.append_assoc]⟩
 ·obtain ⟨m,hn,hl⟩:=I.loc
  refine ⟨m,ns m hn,fun i x v e1 e2 e3=>?_⟩
  obtain ⟨u,r,l⟩:=hl i x v e1 e2 e3
  refine ⟨u,r,?_⟩
  rcases l with l|⟨k,c,e,z⟩
  ·exact .inl l
  ·exact .inr ⟨k,c,e,cellK x c e _ z⟩
 ·obtain ⟨v,z⟩:=I.cell x c e
  exact ⟨v,cellK x c e v z⟩
 ·obtain ⟨m,⟨o,_,_,ho,_⟩,_⟩:=I.loc
  exact free _ o (fun z=>(hch _ z).2.1 rfl) ho I.free
 ·obtain ⟨v,o,ho,hd⟩:=I.cell x c e
  exact free c o (fun z=>(hch c z).2.2.1 x c e rfl) ho (I.freeC x c e)
 ·obtain ⟨e,n,ne,nf,d⟩:=I.pin p hp
  have nch:p.1 ∉ ch:=fun z=>(hch p.1 z).2.2.2 p hp rfl
  exact ⟨keep p.1 p.2 ne nf nch e n,free p.1 p.2 nch e n,ne,nf,d⟩
theorem Inv.un {t':Nat} (I:Inv X pins σ H s) (u:Un X.fs [] H H' s.heap h') (hok:HOk X.prog X.w H' h'):Inv X pins σ H' { s with heap:=h',toks:=t' }:=by
 obtain ⟨m,⟨o,es,ep,ho,r⟩,_⟩:=id I.loc
 obtain ⟨sl,hL⟩:=u.any ho I.free (by simp)
 exact I.step (g':=s.gens) (d':=s.drawn) (ch:=[]) (fun _ z=>nomatch z) (fun b o _ hb _ e n=>u.keep b o e n hb (by simp)) (fun b o _ hb _ e n=>u.slot b o e n hb (by simp)) (fun b o _ e n=>u.free b o e n (by simp)) (fun b o _ e=>u.there b o e (by simp)) u.tups u.frzs u.tbls (fun m' hm=>by
  obtain ⟨o',es',ep',ho',r'⟩:=hm
  rw [ho] at ho';cases ho'
  exact ⟨_,es',ep',hL,r'⟩) hok I.bare
theorem Inv.call {g':Array GenState} {t':Nat} {d':Drawn} (I:Inv X pins σ H s) (u:Un (frs X.stack) ch H H' s.heap h') (hok:HOk X.prog X.w H' h') (hg:AllBare g')
 (hch:∀ b∈ch,(b∈X.ex\/X.s₀.heap.objs.size<=b)/\b≠X.env.locals/\(∀ x c,X.env.cells.lookup x=some c->c≠b)/\∀ p∈X.pn++pins,p.1≠b) :
  Inv X pins σ H' { s with heap:=h',gens:=g',drawn:=d',toks:=t' }:=by
 obtain ⟨m,⟨o,es,ep,ho,r⟩,_⟩:=id I.loc
 obtain ⟨sl,hL⟩:=u.any ho I.free fun z=>(hch _ z).2.1 rfl
 exact I.step (ch:=ch) hch (fun b o hL hb hc e n=>u.keep b o e n (fun z=>(List.mem_cons.mp (I.stkSub b z)).elim hL hb) hc) (fun b o _ _ hc e n=>u.any e n hc) (fun b o hc e n=>u.free b o e n hc) (fun b o hc e=>u.there b o e hc) u.tups u.frzs u.tbls (fun m' hm=>by
  obtain ⟨o',es',ep',ho',r'⟩:=hm
  rw [ho] at ho';cases ho'
  exact ⟨_,es',ep',hL,r'⟩) hok hg
theorem Inv.turned {t':Nat} (I:Inv X pins σ H s) (k:∀ b o,b≠it->s.heap.get? b=some o->h'.get? b=some o) (hn:H it=none) (hL:it≠X.env.locals)
 (h1:it∈X.ex\/X.s₀.heap.objs.size<=it) (h2:∀ x c,X.env.cells.lookup x=some c->c≠it) (h3:∀ p∈X.pn++pins,p.1≠it):Inv X pins σ H { s with heap:=h',toks:=t' }:=by
 have nit:∀ b u,H b=some u->b≠it:=fun b u e z=>by rw [z,hn] at e;cases e
 refine I.step (g':=s.gens) (d':=s.drawn) (ch:=[it]) (fun b hb=>?_) (fun b o _ _ hc e _=>k b o (fun z=>hc (by simp [z])) e) (fun b o _ _ hc e _=>⟨o.slots,k b o (fun z=>hc (by simp [z])) e⟩) (fun _ _ _ _ n=>n)
  (fun b o hc e=>⟨o,k b o (fun z=>hc (by simp [z])) e⟩) (fun _ _ e=>e) (fun _ _ _ e=>e) (fun b ps e=>⟨#[],by rw [e];simp⟩) (fun m hm=>?_) (fun b u e=>?_) I.bare
 ·have e:b=it:=by simpa using hb
  subst e
  exact ⟨h1,hL,h2,h3⟩
 ·obtain ⟨o,es,ep,ho,r⟩:=hm
  exact ⟨o,es,ep,k _ o (Ne.symm hL) ho,r⟩
 ·refine (I.hok b u e).stay (fun c v hc q=>k c v ?_ q) (fun _ q=>q) fun _ _ q=>q
  rcases hc with z|z
  ·rw [z];exact nit b u e
  ·exact nit c _ z
theorem Inv.tok (I:Inv X pins σ H s) (t:Nat):Inv X pins σ H { s with toks:=t }:=I.un (h':=s.heap) (t':=t) Un.refl I.hok
theorem Inv.kept {t':Nat} (I:Inv X pins σ H s) (k:∀ b u,s.heap.get? b=some u->h'.get? b=some u):Inv X pins σ H { s with heap:=h',toks:=t' }:=I.un (Un.kept k) (I.hok.kept k)
theorem Inv.laid {o:HO} {t':Nat} (I:Inv X pins σ H s) (k:∀ b u,s.heap.get? b=some u->h'.get? b=some u) (hp:s.heap.objs.size<=a) (new:ObjOk X.prog X.w (upd H a o) h' a o) :
  Inv X pins σ (upd H a o) { s with heap:=h',toks:=t' }:=I.un (Un.laid k hp (I.hok.fresh hp)) (I.hok.laid k hp new)
theorem Inv.write {x e:Addr} {o:HO} {t':Nat} (I:Inv X pins σ H s) (mu:Mut (H x)) (he:e=x\/H e=some (.own x)) (k:∀ b u,b≠e->s.heap.get? b=some u->h'.get? b=some u) (heo:∃ u,h'.get? e=some u)
 (new:ObjOk X.prog X.w (upd H x o) h' x o):Inv X pins σ (upd H x o) { s with heap:=h',toks:=t' }:=I.un (Un.write mu he k heo) (I.hok.write mu he k heo new)
theorem Inv.pins_of {pins':List (Addr×Obj)} (I:Inv X pins σ H s) (h:∀ p∈pins',s.heap.get? p.1=some p.2/\H p.1=none/\p.1≠X.env.locals/\p.1 ∉ X.fs/\∀ v,p.2.data ≠ .cell v):Inv X pins' σ H s:=
 ⟨I.ok,I.os,I.bare,I.base,I.loc,I.cell,I.free,I.freeC,fun p hp=>(List.mem_append.mp hp).elim (fun z=>I.pin p (List.mem_append_left _ z)) (h p),I.hok,I.len⟩
theorem uT {N:List Str} (hN:N.Nodup) (a:N[i]?=some x) (b:N[j]?=some x):i=j:=by
 obtain ⟨h1,e1⟩:=List.getElem?_eq_some_iff.mp a
 obtain ⟨h2,e2⟩:=List.getElem?_eq_some_iff.mp b
 exact (List.getElem_inj hN).mp (e1.trans e2.symm)
theorem yM {M:Model} {A:Around} {Q:Unit->Shared->Prop} (I:Inv X pins σ H s) (hN:X.N.Nodup) (hi:X.N[i]?=some x) (hx:Loc X.env.scope x) (r:RelV v u)
 (h:∀ s',Inv X pins (σ.set i (some v)) H s'->(∃ a,Heap.SameBut a s.heap s'.heap/\(a=X.env.locals\/X.env.cells.lookup x=some a))->Q () s') (hf:X.fn x=true\/X.env.scope.names.lookup x=some .local:=by first|exact .inl rfl|exact .inr rfl|assumption):wpAny M A (storeName X.env x u) Q E s:=by
 obtain ⟨m,hn,hl⟩:=id I.loc
 have hcls:(X.env.scope.kind==.class || (X.env.scope.kind==.module && X.env.locals != X.env.globals))=false:=by rw [I.ok.kind];rfl
 have hiσ:i<σ.length:=by rw [I.len];exact (List.getElem?_eq_some_iff.mp hi).1
 have cne:=I.cne
 have tracked:∀ {a:Addr} {h':Heap},(∃ o,s.heap.get? a=some o/\H a=none)->Heap.SameBut a s.heap h'->HOk X.prog X.w H h':=fun {a h'} ha hs b ob e=>by
  obtain ⟨_,_,hfree⟩:=ha
  refine (I.hok b ob e).stay (fun c w' hc q=>(hs.2 c ?_).trans q) (fun _ q=>q) fun _ _ q=>q
  rintro rfl
  rcases hc with rfl|hc
  ·rw [hfree] at e;cases e
  ·rw [hfree] at hc;cases hc
 rcases hx with hk|hk
 ·refine wpAny_storeName_local hk hn (fun h' hn' hs=>?_) hcls
  obtain ⟨oL,_,_,hoL,_⟩:=id hn
  refine h _ ⟨I.ok,I.os,I.bare,⟨fun b o e n hb hx=>?_,fun b o e n hb hx=>?_,I.base.free,fun b o e hx=>?_,I.base.tups,I.base.frzs,I.base.tbls⟩,⟨_,hn',fun j y v' e1 e2 e3=>?_⟩,fun y c e=>?_,I.free,I.freeC,fun p hp=>?_,tracked ⟨oL,hoL,I.free⟩ hs,by simpa using I.len⟩ ⟨_,hs,.inl rfl⟩
  ·exact (hs.2 b (Nat.ne_of_lt (Nat.lt_of_lt_of_le (Heap.lt_size e) I.ok.above))).trans (I.base.keep b o e n hb hx)
  ·obtain ⟨sl,e1⟩:=I.base.slot b o e n hb hx
   exact ⟨sl,(hs.2 b (Nat.ne_of_lt (Nat.lt_of_lt_of_le (Heap.lt_size e) I.ok.above))).trans e1⟩
  ·obtain ⟨o',e1⟩:=I.base.there b o e hx
   exact ⟨o',(hs.2 b (Nat.ne_of_lt (Nat.lt_of_lt_of_le (Heap.lt_size e) I.ok.above))).trans e1⟩
  ·by_cases hj:j=i
   ·subst hj
    rw [hi] at e1;cases e1
    rw [List.getElem?_set_self hiσ] at e2
    cases e2
    exact ⟨u,r,.inl ⟨hk,by simp⟩⟩
   ·rw [List.getElem?_set_ne (Ne.symm hj)] at e2
    obtain ⟨u',r',q⟩:=hl j y v' e1 e2 e3
    refine ⟨u',r',?_⟩
    rcases q with ⟨k,e⟩|⟨k,c,e,z⟩
    ·refine .inl ⟨k,?_⟩
     have:y≠x:=fun e=>hj (uT hN e1 (e ▸ hi))
     simp [this,e]
    ·exact .inr ⟨k,c,e,z.sameBut hs (cne y c e)⟩
  ·obtain ⟨w',z⟩:=I.cell y c e
   exact ⟨w',z.sameBut hs (cne y c e)⟩
  ·obtain ⟨e,n,ne,nf,d⟩:=I.pin p hp
   exact ⟨(hs.2 p.1 ne).trans e,n,ne,nf,d⟩
 ·have hfn:X.fn x=true:=by
   rcases hf with z|z
   ·exact z
   ·rw [z] at hk;cases hk
  obtain ⟨c,hc⟩:=I.ok.has x (.inl hk)
  obtain ⟨w',z⟩:=I.cell x c hc
  refine wpAny_storeName_cell I.ok.kind hk hc z (fun h' hc' hs=>?_)
  obtain ⟨oc,hoc,hocd⟩:=id z
  refine h { s with heap:=h' } ⟨I.ok,I.os,I.bare,⟨fun b o e n hb hx=>?_,fun b o e n hb hx=>?_,I.base.free,fun b o e hx=>?_,I.base.tups,I.base.frzs,I.base.tbls⟩,⟨m,hn.sameBut hs (Ne.symm (cne x c hc)),fun j y v' e1 e2 e3=>?_⟩,fun y c' e=>?_,I.free,I.freeC,fun p hp=>?_,tracked ⟨oc,hoc,I.freeC x c hc⟩ hs,by simpa using I.len⟩ ⟨c,hs,.inr hc⟩
  ·exact (hs.2 b (Nat.ne_of_lt (Nat.lt_of_lt_of_le (Heap.lt_size e) (I.ok.cab x c hfn hc)))).trans (I.base.keep b o e n hb hx)
  ·obtain ⟨sl,e1⟩:=I.base.slot b o e n hb hx
   exact ⟨sl,(hs.2 b (Nat.ne_of_lt (Nat.lt_of_lt_of_le (Heap.lt_size e) (I.ok.cab x c hfn hc)))).trans e1⟩
  ·obtain ⟨o',e1⟩:=I.base.there b o e hx
   exact ⟨o',(hs.2 b (Nat.ne_of_lt (Nat.lt_of_lt_of_le (Heap.lt_size e) (I.ok.cab x c hfn hc)))).trans e1⟩
  ·by_cases hj:j=i
   ·subst hj
    rw [hi] at e1;cases e1
    rw [List.getElem?_set_self hiσ] at e2
    cases e2
    exact ⟨u,r,.inr ⟨.inl hk,c,hc,hc'⟩⟩
   ·rw [List.getElem?_set_ne (Ne.symm hj)] at e2
    obtain ⟨u',r',q⟩:=hl j y v' e1 e2 e3
    refine ⟨u',r',?_⟩
    rcases q with q|⟨k,c',e,z'⟩
    ·exact .inl q
    ·refine .inr ⟨k,c',e,z'.sameBut hs ?_⟩
     rintro rfl
     exact hj (uT hN e1 (I.ok.inj _ _ _ e hc ▸ hi))
  ·by_cases hcc:c'=c
   ·subst hcc;exact ⟨_,hc'⟩
   ·obtain ⟨w2,z2⟩:=I.cell y c' e
    exact ⟨w2,z2.sameBut hs hcc⟩
  ·obtain ⟨e,n,ne,nf,d⟩:=I.pin p hp
   refine ⟨(hs.2 p.1 ?_).trans e,n,ne,nf,d⟩
   intro q
   rw [q,hoc] at e
   have q':oc=p.2:=Option.some.inj e
   exact d w' (by rw [<- q'];exact hocd)
theorem oa {M:Model} {A:Around} {Q:Unit->Shared->Prop} (I:Inv X pins σ H s) (hN:X.N.Nodup) (hi:X.N[i]?=some x) (hx:Loc X.env.scope x) (r:RelV v u)
 (h:∀ s',Inv X pins (σ.set i (some v)) H s'->Q () s') (hf:X.fn x=true\/X.env.scope.names.lookup x=some .local:=by first|exact .inl rfl|exact .inr rfl|assumption):wpAny M A (storeName X.env x u) Q E s:=
 yM I hN hi hx r (fun s' I' _=>h s' I') hf
theorem Inv.call' (I:Inv X pins σ H s) (ho:s'.os=s.os) (u:Un (frs X.stack) ch H H' s.heap s'.heap) (hok:HOk X.prog X.w H' s'.heap) (hg:AllBare s'.gens)
 (hch:∀ b∈ch,(b∈X.ex\/X.s₀.heap.objs.size<=b)/\b≠X.env.locals/\(∀ x c,X.env.cells.lookup x=some c->c≠b)/\∀ p∈X.pn++pins,p.1≠b):Inv X pins σ H' s':=by
 obtain ⟨h',g',d',t',o'⟩:=s'
 have e:o'=s.os:=ho
 subst e
 exact I.call (g':=g') (t':=t') (d':=d') u hok hg hch
end
noncomputable abbrev XK:=Value->Option Addr->Hp->Prop
noncomputable abbrev St:=List (Option V)
noncomputable abbrev VK:=V->Hp->Prop
noncomputable abbrev TE:=St->Hp->VK->Prop
noncomputable abbrev TT:=St->Hp->(Bool->Hp->Prop)->Prop
noncomputable abbrev TA:=St->Hp->(List V->Hp->Prop)->Prop
structure Ends where
 nx:St->Hp->Prop
 rt:VK
 bk:St->Hp->Prop:=fun _ _=>False
 ct:St->Hp->Prop:=fun _ _=>False
noncomputable abbrev TS:=Ends->St->Hp->Prop
noncomputable def EP (X:Cx) (pins:List (Addr×Obj)) (σ:St) (Q:VK) (u:Value) (s':Shared):Prop:=∃ v H',Inv X pins σ H' s'/\RelV v u/\Q v H'
noncomputable def TP (X:Cx) (pins:List (Addr×Obj)) (σ:St) (Q:Bool->Hp->Prop) (b:Bool) (s':Shared):Prop:=∃ H',Inv X pins σ H' s'/\Q b H'
noncomputable def AP (X:Cx) (pins:List (Addr×Obj)) (σ:St) (Q:List V->Hp->Prop) (us:List Value) (s':Shared):Prop:=∃ vs H',Inv X pins σ H' s'/\Vals vs us/\Q vs H'
noncomputable def SP (X:Cx) (pins:List (Addr×Obj)) (D:Ends) (f:Flow) (s':Shared):Prop:=
 match f with
 | .next=>∃ σ' H',Inv X pins σ' H' s'/\D.nx σ' H'
 | .brk=>∃ σ' H',Inv X pins σ' H' s'/\D.bk σ' H'
 | .cont=>∃ σ' H',Inv X pins σ' H' s'/\D.ct σ' H'
 | .ret u=>∃ v σ' H',Inv X pins σ' H' s'/\RelV v u/\D.rt v H'
noncomputable def PE (X:Cx) (e:Expr) (t:TE):Prop:=
 ∀ (pins:List (Addr×Obj)) (s:Shared) (σ:St) (H:Hp) (Q:VK),Inv X pins σ H s->t σ H Q->wpAny (model X.prog X.w) X.A (eval e X.env) (EP X pins σ Q) X.xe s
noncomputable def PT (X:Cx) (e:Expr) (t:TT):Prop:=
 ∀ (pins:List (Addr×Obj)) (s:Shared) (σ:St) (H:Hp) (Q:Bool->Hp->Prop),Inv X pins σ H s->t σ H Q->wpAny (model X.prog X.w) X.A (isTrue e X.env (eval e X.env)) (TP X pins σ Q) X.xe s
noncomputable def PW (X:Cx) (e:Expr) (t:TT):Prop:=
 ∀ (whole:Sem Value) (pins:List (Addr×Obj)) (s:Shared) (σ:St) (H:Hp) (Q:Bool->Hp->Prop),Inv X pins σ H s->t σ H Q->wpAny (model X.prog X.w) X.A (isTrue e X.env whole) (TP X pins σ Q) X.xe s
noncomputable def PA (X:Cx) (es:List Expr) (t:TA):Prop:=
 ∀ (pos:Pos) (pins:List (Addr×Obj)) (s:Shared) (σ:St) (H:Hp) (Q:List V->Hp->Prop),Inv X pins σ H s->t σ H Q->wpAny (model X.prog X.w) X.A (spliced (backTo pos (starEach es X.env))) (AP X pins σ Q) X.xe s
noncomputable def PS (X:Cx) (st:Stmt) (t:TS):Prop:=
 ∀ (pins:List (Addr×Obj)) (s:Shared) (σ:St) (H:Hp) (D:Ends),Inv X pins σ H s->t D σ H->wpAny (model X.prog X.w) X.A (exec st X.env) (SP X pins D) X.xe s
noncomputable def PSs (X:Cx) (st:List Stmt) (t:TS):Prop:=
 ∀ (pins:List (Addr×Obj)) (s:Shared) (σ:St) (H:Hp) (D:Ends),Inv X pins σ H s->t D σ H->wpAny (model X.prog X.w) X.A (execs st X.env) (SP X pins D) X.xe s
theorem thn {α:Type} {t:Sem α} {Q Q':α->Shared->Prop} {M:Model} {A:Around} (h:wpAny M A t Q E s) (hQ:∀ a s,Q a s->Q' a s):wpAny M A t Q' E s:=wpAny_mono h hQ fun _ _ x=>x
end L2
variable {σ:L2.St} {X:L2.Cx}
namespace L2
open PySem PySem.Spec PyProof.Rows
section
variable {X:Cx}
noncomputable def GJ (i:Nat):TE:=fun σ H Q=>∃ v,σ[i]?=some (some v)/\Q v H
noncomputable def tC (v:V):TE:=fun _ H Q=>Q v H
theorem ip (hN:X.N[i]?=some x) (hv:Vis X.env.scope x) (hd:(x==("__debug__":Str))=false:=by decide) (hcd:(x==("__classdict__":Str))=false:=by decide):PE X (.Name x pos) (GJ i):=by
 intro pins s σ H Q I h
 obtain ⟨v,e,h⟩:=h
 obtain ⟨m,hn,hl⟩:=I.loc
 obtain ⟨u,r,l⟩:=hl i x v hN e hv
 have fin:EP X pins σ Q u s:=⟨v,H,I,r,h⟩
 rcases l with ⟨hk,hm⟩|⟨hk,c,hc,hcell⟩
 ·exact wpAny_Name (wpAny_loadName_local I.ok.kind hk hn hm fin) hd
 ·rcases hk with hk|hk
  ·exact wpAny_Name (wpAny_loadName_cell I.ok.kind hk hc hcell fin) hd
  ·exact wpAny_Name (wpAny_loadName_free I.ok.kind hk hc hcell fin hcd) hd
theorem Gu {i j pos}:PE X (.Constant (.int i) j pos) (tC (.int i)):=fun _ _ _ H _ I h=>wpAny_Constant_int ⟨.int i,H,I.tok _,⟨_,rfl⟩,h⟩
theorem IC {b j pos}:PE X (.Constant (.bool b) j pos) (tC (.bl b)):=fun _ _ _ H _ I h=>Constant_bool ⟨.bl b,H,I,rfl,h⟩
theorem EO {j pos}:PE X (.Constant .none j pos) (tC .non):=fun _ _ _ H _ I h=>Constant_none ⟨.non,H,I,rfl,h⟩
theorem F5 {x j pos}:PE X (.Constant (.str x) j pos) (tC (.str x)):=fun _ _ _ H _ I h=>Calls.Constant_str ⟨.str x,H,I.tok _,⟨_,rfl⟩,h⟩
noncomputable def Gl (X:Cx) (x:Str):Prop:=X.env.kindOf x=some .globalImplicit
theorem pe {Q:Value->Shared->Prop} (I:Inv X pins σ H s) (hg:Gl X x) (hm:X.mg x=some u) (h:Q u s)
 (hd:(x==("__debug__":Str))=false:=by decide):wpAny (model X.prog X.w) X.A (eval (.Name x pos) X.env) Q E s:=
 Calls.Name_function_global I.ok.kind hg (Calls.loadGlobal_global (by rw [I.ok.glob];exact I.mod.glob.keeps I.bk) hm h) hd
theorem lK {Q:Value->Shared->Prop} (I:Inv X pins σ H s) (hg:Gl X x) (hm:X.mg x=none) (hv:bootBuiltins x=some u) (h:Q u s)
 (hn:x ≠ "__name__":=by decide) (hd:(x==("__debug__":Str))=false:=by decide):wpAny (model X.prog X.w) X.A (eval (.Name x pos) X.env) Q E s:=by
 obtain ⟨mb,h1,h2⟩:=I.mod.blt
 exact Calls.Name_function_global I.ok.kind hg (Calls.loadGlobal_builtin (by rw [I.ok.glob];exact I.mod.glob.keeps I.bk) hm (by rw [I.ok.blt];exact h1.keeps I.bk) ((h2 x hn).trans hv) h) hd
theorem tM (hg:Gl X x) (hm:X.mg x=some u) (r:RelV v u) (hd:(x==("__debug__":Str))=false:=by decide):PE X (.Name x pos) (tC v):=
 fun _ _ _ H _ I h=>pe I hg hm ⟨v,H,I,r,h⟩ hd
theorem B4 (hg:Gl X x) (hm:X.mg x=none) (hv:bootBuiltins x=some u) (r:RelV v u) (hn:x ≠ "__name__":=by decide) (hd:(x==("__debug__":Str))=false:=by decide):PE X (.Name x pos) (tC v):=
 fun _ _ _ H _ I h=>lK I hg hm hv ⟨v,H,I,r,h⟩ hn hd
variable {a b:Expr} {ta tb:TE} {pos:Pos}
variable {tA tB':TT} {cG:List Expr}
noncomputable def tOr (t u:TT):TT:=fun σ H Q=>t σ H fun c H1=>if c=true then Q true H1 else u σ H1 Q
noncomputable def KS (t:TT):TT:=fun σ H Q=>t σ H fun c H1=>Q (!c) H1
theorem Ex (ha:PT X a tA):PW X (.BoolOp .Or [a] pos) tA:=by
 intro wh pins s σ H Q I h
 refine isTrue_or (thn (ha pins s σ H Q I h) fun c s1 e=>?_)
 cases c with
 | false=>exact isTrue_or_nil e
 | true=>exact e
theorem Hb (ha:PT X a tA) (hb:PW X (.BoolOp .Or (b::cG) pos) tB'):PW X (.BoolOp .Or (a::b::cG) pos) (tOr tA tB'):=by
 intro wh pins s σ H Q I h
 refine isTrue_or (thn (ha pins s σ H _ I h) fun c s1 ⟨H1,I1,q1⟩=>?_)
 cases c with
 | true=>exact ⟨H1,I1,q1⟩
 | false=>exact hb wh pins s1 σ H1 Q I1 q1
theorem Fk (ha:PT X a tA):PT X (.UnaryOp .Not a pos) (KS tA):=by
 intro pins s σ H Q I h
 exact isTrue_not (ha pins s σ H (fun c H1=>Q (!c) H1) I h)
noncomputable def Jn (ta tb:TE):TE:=fun σ H Q=>ta σ H fun x H1=>∃ c,x=.bl c/\if c=true then tb σ H1 Q else Q (.bl false) H1
noncomputable def K3 (ta tb:TE):TE:=fun σ H Q=>ta σ H fun x H1=>∃ c,x=.bl c/\if c=true then Q (.bl true) H1 else tb σ H1 Q
noncomputable def Hs (ta:TE):TE:=fun σ H Q=>ta σ H fun x H1=>∃ c,x=.bl c/\Q (.bl (!c)) H1
theorem Fc {op} {t:TE} (h:PE X a t):PE X (.BoolOp op [a] pos) t:=fun pins s σ H Q I hw=>BoolOp_one (h pins s σ H Q I hw)
theorem FR (ha:PE X a ta) (hb:PE X (.BoolOp .And (b::cG) pos) tb):PE X (.BoolOp .And (a::b::cG) pos) (Jn ta tb):=by
 intro pins s σ H Q I h
 refine BoolOp_and (thn (ha pins s σ H _ I h) fun v s1 ⟨x,H1,I1,r1,q1⟩=>?_)
 obtain ⟨c,rfl,q1⟩:=q1
 cases r1
 refine wpAny_truthy_bool ?_
 cases c with
 | true=>exact hb pins s1 σ H1 Q I1 q1
 | false=>exact ⟨.bl false,H1,I1,rfl,q1⟩
theorem Ih (ha:PE X a ta) (hb:PE X (.BoolOp .Or (b::cG) pos) tb):PE X (.BoolOp .Or (a::b::cG) pos) (K3 ta tb):=by
 intro pins s σ H Q I h
 refine BoolOp_or (thn (ha pins s σ H _ I h) fun v s1 ⟨x,H1,I1,r1,q1⟩=>?_)
 obtain ⟨c,rfl,q1⟩:=q1
 cases r1
 refine wpAny_truthy_bool ?_
 cases c with
 | false=>exact hb pins s1 σ H1 Q I1 q1
 | true=>exact ⟨.bl true,H1,I1,rfl,q1⟩
theorem Fp (ha:PE X a ta):PE X (.UnaryOp .Not a pos) (Hs ta):=by
 intro pins s σ H Q I h
 refine UnaryOp_ (thn (ha pins s σ H _ I h) fun v s1 ⟨x,H1,I1,r1,q1⟩=>?_)
 obtain ⟨c,rfl,q1⟩:=q1
 cases r1
 exact not_of (wpAny_truthy_bool ⟨.bl (!c),H1,I1,rfl,q1⟩)
noncomputable def tIf (t:TT) (ta tb:TE):TE:=fun σ H Q=>t σ H fun c H1=>if c=true then ta σ H1 Q else tb σ H1 Q
theorem AW {c:Expr} (hc:PT X c tA) (ha:PE X a ta) (hb:PE X b tb):PE X (.IfExp c a b pos) (tIf tA ta tb):=by
 intro pins s σ H Q I h
 refine wpAny_IfExp (thn (hc pins s σ H _ I h) fun d s1 ⟨H1,I1,q1⟩=>?_)
 cases d with
 | true=>exact ha pins s1 σ H1 Q I1 q1
 | false=>exact hb pins s1 σ H1 Q I1 q1
end
noncomputable def SqL (K:W.Frag) (H:Hp) (a:Addr) (xs:List V):Prop:=
 Rd H a (.lst xs)\/
  ∃ (o:Obj) (its:Array Value) (n:Nat),K.lookup a=some o/\o.cls=.type "list"/\o.dict=none/\o.data=.seq its n/\its.size<=sizeLine/\Vals xs its.toList
noncomputable def SqT (K:W.Frag) (H:Hp) (a:Addr) (xs:List V):Prop:=
 Rd H a (.tup xs)\/
  ∃ (o:Obj) (its:Array Value) (n:Nat),K.lookup a=some o/\o.cls=.type "tuple"/\o.data=.seq its n/\its.size<=sizeLine/\Vals xs its.toList
noncomputable def KU:Value->Option V
 | .none=>some .non
 | .bool b=>some (.bl b)
 | .int i _=>some (.int i)
 | .str x _=>some (.str x)
 | .bytes b _=>some (.byt b)
 | .float b _=>some (.flt b)
 | .ref a=>some (.ref a)
 | .type n=>some (.ty n)
 | _=>none
theorem RelV.abs {x:V} (r:RelV x u):KU u=some x:=by
 cases x with
 | non=>cases r;rfl
 | bl _=>cases r;rfl
 | int _=>obtain ⟨t,rfl⟩:=r;rfl
 | str _=>obtain ⟨t,rfl⟩:=r;rfl
 | byt _=>obtain ⟨t,rfl⟩:=r;rfl
 | flt _=>obtain ⟨t,rfl⟩:=r;rfl
 | ref _=>cases r;rfl
 | ty _=>cases r;rfl
theorem RelV.inj {x y:V} (r:RelV x u) (q:RelV y u):x=y:=Option.some.inj (r.abs.symm.trans q.abs)
theorem Vals.inj:∀ {xs ys:List V} {us:List Value},Vals xs us->Vals ys us->xs=ys
 | _,_,_,.nil,.nil=>rfl
 | _,_,_,.cons r t,.cons r' t'=>by rw [r.inj r',Vals.inj t t']
section
variable {X:Cx} {pins:List (Addr×Obj)} {σ:St} {H:Hp} {s:Shared} {a:Addr} {xs ys:List V}
theorem SqL.of {K:W.Frag} (h:H a=some (.lst xs)):SqL K H a xs:=.inl (.inl h)
theorem SqT.of {K:W.Frag} (h:H a=some (.tup xs)):SqT K H a xs:=.inl (.inl h)
theorem Inv.list (I:Inv X pins σ H s) (h:SqL X.K H a xs):∃ its:List Value,Vals xs its/\PlainL s.heap a its.toArray/\xs.length<=sizeLine:=by
 rcases h with h|⟨o,its,n,hk,hc,hd,hs,hz,r⟩
 ·obtain ⟨z,its,n,r,e⟩:=h.ok I.hok
  exact ⟨its,r,⟨_,n,e,rfl,rfl,rfl⟩,z⟩
 ·refine ⟨its.toList,r,⟨o,n,I.kIn a o hk,hc,hd,by simpa using hs⟩,?_⟩
  have e:=r.length
  simp only [Array.length_toList] at e
  omega
theorem Inv.tuple (I:Inv X pins σ H s) (h:SqT X.K H a xs):∃ its:List Value,Vals xs its/\IsTup s.heap a its.toArray/\xs.length<=sizeLine:=by
 rcases h with h|⟨o,its,n,hk,hc,hs,hz,r⟩
 ·obtain ⟨z,its,r,p⟩:=h.ok I.hok
  exact ⟨its,r,p,z⟩
 ·refine ⟨its.toList,r,⟨o,I.kIn a o hk,hc,n,by simpa using hs⟩,?_⟩
  have e:=r.length
  simp only [Array.length_toList] at e
  omega
theorem Inv.list_inj (I:Inv X pins σ H s) (h:SqL X.K H a xs) (h':SqL X.K H a ys):xs=ys:=by
 obtain ⟨its,r,⟨o,n,e,_,_,d⟩,_⟩:=I.list h
 obtain ⟨its',r',⟨o',n',e',_,_,d'⟩,_⟩:=I.list h'
 rw [e] at e';cases e'
 rw [d] at d'
 injection d' with d1 _
 have:its=its':=by simpa using congrArg Array.toList d1
 subst this
 exact r.inj r'
theorem Inv.tuple_inj (I:Inv X pins σ H s) (h:SqT X.K H a xs) (h':SqT X.K H a ys):xs=ys:=by
 obtain ⟨its,r,⟨o,e,_,n,d⟩,_⟩:=I.tuple h
 obtain ⟨its',r',⟨o',e',_,n',d'⟩,_⟩:=I.tuple h'
 rw [e] at e';cases e'
 rw [d] at d'
 injection d' with d1 _
 have:its=its':=by simpa using congrArg Array.toList d1
 subst this
 exact r.inj r'
end
noncomputable abbrev Cx.wish (X:Cx) (E:Value->Shared->Prop):Cx:={ X with xe:=E }
section
variable {X:Cx} {st:Stmt} {cG:List Stmt} {t u:TS} {e:Expr} {te:TE} {pos:Pos}
noncomputable def Hm:TS:=fun D σ H=>D.nx σ H
noncomputable def J2 (t u:TS):TS:=fun D σ H=>t { D with nx:=u D } σ H
theorem DM:PSs X [] Hm:=fun _ _ σ H _ I h=>wpAny_execs_nil ⟨σ,H,I,h⟩
theorem oY (h1:PS X st t) (h2:PSs X cG u):PSs X (st::cG) (J2 t u):=by
 intro pins s σ H D I h
 refine wpAny_execs_cons (thn (h1 pins s σ H { D with nx:=u D } I h) fun f s1 q=>?_)
 cases f with
 | next=>
  obtain ⟨σ',H',I',q⟩:=q
  exact h2 pins s1 σ' H' D I' q
 | ret v=>exact q
 | brk=>exact q
 | cont=>exact q
theorem Inv.quiet (I:Inv X pins σ H s):interactive X.env=false:=by simp [interactive,I.ok.kind]
noncomputable def Ha (te:TE):TS:=fun D σ H=>te σ H fun _ H1=>D.nx σ H1
theorem pY (he:PE X e te) (hs:swapsWith e none pos.line X.env=pure false:=by rfl):PS X (.Expr e pos) (Ha te):=by
 intro pins s σ H D I h
 exact wpAny_Expr_any (thn (he pins s σ H _ I h) fun v s1 ⟨x,H1,I1,r1,q1⟩=>⟨σ,H1,I1,q1⟩) I.quiet hs
noncomputable def Kn (te:TE):TS:=fun D σ H=>te σ H D.rt
theorem BF (he:PE X e te):PS X (.Return (some e) pos) (Kn te):=by
 intro pins s σ H D I h
 exact wpAny_Return_some (thn (he pins s σ H _ I h) fun v s1 ⟨x,H1,I1,r1,q1⟩=>⟨x,σ,H1,I1,r1,q1⟩)
noncomputable def J4 (c:TT) (t u:TS):TS:=fun D σ H=>c σ H fun b H1=>if b=true then t D σ H1 else u D σ H1
theorem G9 {c:Expr} {a b:List Stmt} {tc:TT} (hc:PT X c tc) (ha:PSs X a t) (hb:PSs X b u):PS X (.If c a b pos) (J4 tc t u):=by
 intro pins s σ H D I h
 refine wpAny_If (thn (hc pins s σ H _ I h) fun d s1 ⟨H1,I1,q1⟩=>?_)
 cases d with
 | true=>exact ha pins s1 σ H1 D I1 q1
 | false=>exact hb pins s1 σ H1 D I1 q1
end
noncomputable abbrev TG:=V->St->Hp->(St->Hp->Prop)->Prop
noncomputable abbrev TGs:=List V->St->Hp->(St->Hp->Prop)->Prop
noncomputable def PG (X:Cx) (target:Expr) (t:TG):Prop:=
 ∀ (pins:List (Addr×Obj)) (s:Shared) (σ:St) (H:Hp) (v:V) (u:Value) (Q:St->Hp->Prop),Inv X pins σ H s->RelV v u->t v σ H Q->
  wpAny (model X.prog X.w) X.A (assign target X.env u) (fun _ s'=>∃ σ' H',Inv X pins σ' H' s'/\Q σ' H') X.xe s
noncomputable def PGs (X:Cx) (ts:List Expr) (t:TGs):Prop:=
 ∀ (pins:List (Addr×Obj)) (s:Shared) (σ:St) (H:Hp) (vs:List V) (us:List Value) (Q:St->Hp->Prop),Inv X pins σ H s->Vals vs us->t vs σ H Q->
  wpAny (model X.prog X.w) X.A (assignInOrder ((assignEach ts X.env).map (·.2)) us) (fun _ s'=>∃ σ' H',Inv X pins σ' H' s'/\Q σ' H') X.xe s
noncomputable abbrev GP:=V->V->V->Hp->(Hp->Prop)->Prop
noncomputable def GX (X:Cx) (t:GP):Prop:=
 ∀ (pins:List (Addr×Obj)) (s:Shared) (σ:St) (H:Hp) (o i v:V) (ov iv u:Value) (Q:Hp->Prop),Inv X pins σ H s->RelV o ov->RelV i iv->RelV v u->t o i v H Q->
  wpAny (model X.prog X.w) X.A (setItem ov iv u) (fun _ s'=>∃ H',Inv X pins σ H' s'/\Q H') X.xe s
section
variable {X:Cx} {pos:Pos}
noncomputable def HN (i:Nat):TG:=fun v σ H Q=>Q (σ.set i (some v)) H
theorem jH (hN:X.N.Nodup) (hi:X.N[i]?=some x) (hx:Loc X.env.scope x) (hf:X.fn x=true\/X.env.scope.names.lookup x=some .local:=by first|exact .inl rfl|exact .inr rfl|assumption):PG X (.Name x pos) (HN i):=by
 intro pins s σ H v u Q I r h
 exact wpAny_assign_Name (oa I hN hi hx r (fun s' I'=>⟨_,H,I',h⟩) hf)
noncomputable def Lj:TGs:=fun vs σ H Q=>vs=[]/\Q σ H
noncomputable def GU (t:TG) (u:TGs):TGs:=fun vs σ H Q=>∃ v r,vs=v::r/\t v σ H fun σ' H'=>u r σ' H' Q
theorem zb:PGs X [] Lj:=by
 intro pins s σ H vs us Q I r h
 obtain ⟨e,h⟩:=h
 subst e
 cases r
 exact assignInOrder_nil ⟨σ,H,I,h⟩
theorem uD {e:Expr} {t:TG} {u:TGs} (h1:PG X e t) (h2:PGs X es u)
 (hs:(assignEach (e::es) X.env).map (·.2)=assign e X.env::(assignEach es X.env).map (·.2):=by rfl):PGs X (e::es) (GU t u):=by
 intro pins s σ H vs us Q I r h
 obtain ⟨v,vr,e1,h⟩:=h
 subst e1
 cases r with
 | cons r rr=>
  rw [hs]
  refine assignInOrder_cons (thn (h1 pins s σ H _ _ _ I r h) fun _ s1 ⟨σ1,H1,I1,q1⟩=>?_)
  exact h2 pins s1 σ1 H1 _ _ Q I1 rr q1
noncomputable def KG (K:W.Frag) (n:Nat) (t:TGs):TG:=fun v σ H Q=>∃ a xs,v=.ref a/\SqT K H a xs/\xs.length=n/\t xs σ H Q
theorem Bl {t:TGs} {n:Nat} (hc:X.calm=true) (h:PGs X es t)
 (hn:(assignEach es X.env).length=n:=by rfl) (hst:(assignEach es X.env).findIdx? (·.1)=none:=by rfl):PG X (.Tuple es k pos) (KG X.K n t):=by
 intro pins s σ H v u Q I r hw
 obtain ⟨a,xs,e1,hq,hl,hw⟩:=hw
 subst e1
 cases r
 obtain ⟨its,rv,ht,hz⟩:=I.tuple hq
 refine assign_Tuple_tuple (I.ok.hd hc) ht (by simp [hn,<- hl,rv.length]) hst fun h' hx=>?_
 have I1:Inv X pins σ H { s with heap:=h' }:=I.kept (t':=s.toks) fun b o e=>hx b o (Nat.ne_of_lt (Heap.lt_size e)) e
 exact h pins _ σ H xs _ Q I1 (by simpa using rv) hw
noncomputable def I8 (to ti:TE) (t:GP):TG:=fun v σ H Q=>to σ H fun o H1=>ti σ H1 fun i H2=>t o i v H2 fun H3=>Q σ H3
theorem Bd {o i:Expr} {to ti:TE} {t:GP} (ho:PE X o to) (hi:PE X i ti) (hs:GX X t)
 (ha:∀ v,assign (.Subscript o i pos) X.env v=(do
 let ov <- holding [v] (eval o X.env)
 let iv <- holding [v,ov] (eval i X.env)
 standAt pos
 holding [v,ov,iv] (setItem ov iv v)
 release [v,ov,iv] []):=by intro _;rfl):PG X (.Subscript o i pos) (I8 to ti t):=by
 intro pins s σ H v u Q I r h
 rw [ha]
 refine wpAny_bind (wpAny_holding (thn (ho pins s σ H _ I h) fun ov s1 ⟨x,H1,I1,r1,q1⟩=>?_))
 refine wpAny_bind (wpAny_holding (thn (hi pins s1 σ H1 _ I1 q1) fun iv s2 ⟨y,H2,I2,r2,q2⟩=>?_))
 refine wpAny_bind (wpAny_standAt (wpAny_bind (wpAny_holding (thn (hs pins s2 σ H2 x y v ov iv u _ I2 r1 r2 r q2) fun _ s3 ⟨H3,I3,q3⟩=>?_))))
 exact wpAny_release ⟨σ,H3,I3,q3⟩
noncomputable def KN (te:TE) (g:TG):TS:=fun D σ H=>te σ H fun x H1=>g x σ H1 D.nx
theorem mx {tg e:Expr} {te:TE} {g:TG} (he:PE X e te) (hg:PG X tg g) (hs:swapsWithSole [tg] e pos.line X.env=pure false:=by rfl) (hw:swappedStores [tg] e X.env=pure none:=by rfl)
 (h1:(assignEach [tg] X.env).map (·.2)=[assign tg X.env]:=by rfl):PS X (.Assign [tg] e pos) (KN te g):=by
 intro pins s σ H D I h
 refine wpAny_Assign_stores (thn (he pins s σ H _ I h) fun v s1 ⟨x,H1,I1,r1,q1⟩=>?_) hs hw
 rw [h1]
 exact thn (hg pins s1 σ H1 x v _ I1 r1 q1) fun _ s2 q=>q
noncomputable def Kd (i j:Nat) (ta:TA):TS:=fun D σ H=>ta σ H fun vs H1=>∃ v w,vs=[v,w]/\D.nx ((σ.set i (some v)).set j (some w)) H1
theorem FN {y:Str} {a b:Expr} {ta:TA} {px py pt:Pos} {kt k2 pt2} (hc:X.calm=true) (hN:X.N.Nodup) (hi:X.N[i]?=some x) (hj:X.N[j]?=some y) (hij:i≠j)
 (hx:X.env.scope.names.lookup x=some .local) (hy:X.env.scope.names.lookup y=some .local) (ha:PA X [a,b] ta)
 (hw:swappedStores [.Tuple [.Name x px,.Name y py] kt pt] (.Tuple [a,b] k2 pt2) X.env=pure (some [x,y]))
 (hs:swapsWithSole [.Tuple [.Name x px,.Name y py] kt pt] (.Tuple [a,b] k2 pt2) pos.line X.env=pure false:=by rfl) :
  PS X (.Assign [.Tuple [.Name x px,.Name y py] kt pt] (.Tuple [a,b] k2 pt2) pos) (Kd i j ta):=by
 intro pins s σ H D I h
 rw [exec_Assign_arm]
 refine wpAny_bind (wpAny_standAt ?_)
 rw [hs]
 refine wpAny_bind (wpAny_pure ?_)
 rw [if_neg (by decide)]
 refine wpAny_bind (Tuple_ (thn (ha _ pins s σ H _ I h) fun us s1 ⟨vs,H1,I1,r1,q1⟩=>?_))
 obtain ⟨v,w,e1,q1⟩:=q1
 subst e1
 obtain ⟨u1,u2,rfl,rv,rw'⟩:∃ u1 u2,us=[u1,u2]/\RelV v u1/\RelV w u2:=by
  cases r1 with
  | cons p q=>
   cases q with
   | cons p' q'=>
    cases q'
    exact ⟨_,_,rfl,p,p'⟩
 refine wpAny_newObj_type ?_ (by show 2<=sizeLine;decide)
 have I2:Inv X pins σ H1 { s1 with heap:=s1.heap.push { cls:=.type "tuple",data:=.seq [u1,u2].toArray } }:=I1.kept (t':=s1.toks) fun b o e=>Heap.get?_push_of_some _ e
 rw [hw]
 refine wpAny_bind (wpAny_pure ?_)
 show wpAny (model X.prog X.w) X.A (do rule "assign.swapped-stores";let items <- unpackItems (.ref s1.heap.objs.size) 2 none;assignInOrder [fun v=>bindName X.env y v,fun v=>bindName X.env x v] items.reverse;pure Flow.next) _ _ _
 refine wpAny_bind (wpAny_rule (wpAny_bind (unpackItems_tuple (items:=#[u1,u2]) (I.ok.hd hc) (IsTup.new s1.heap _) fun h' hx'=>?_)))
 have I3:=I2.kept (h':=h') (t':=s1.toks) fun b o e=>hx' b o (Nat.ne_of_lt (Heap.lt_size e)) e
 show wpAny _ _ (assignInOrder [fun v=>bindName X.env y v,fun v=>bindName X.env x v] [u2,u1]>>=fun _=>pure Flow.next) _ _ _
 refine wpAny_bind (assignInOrder_cons (wpAny_bindName (oa I3 hN hj (.inl hy) rw' (fun s2 I4=>?_) (.inr hy))))
 refine assignInOrder_cons (wpAny_bindName (oa I4 hN hi (.inl hx) rv (fun s3 I5=>assignInOrder_nil (wpAny_pure ?_)) (.inr hx)))
 rw [List.set_comm _ _ (Ne.symm hij)] at I5
 exact ⟨_,H1,I5,q1⟩
end
structure It where
 go:Nat->Hp->Prop
 yld:Nat->Hp->V->Hp->Prop
 stop:Nat->Hp->Prop
noncomputable def nP (X:Cx) (pins:List (Addr×Obj)) (H:Hp) (b:Addr):Prop:=
 H b=none/\b≠X.env.locals/\b ∉ X.fs/\(b∈X.ex\/X.s₀.heap.objs.size<=b)/\(∀ x c,X.env.cells.lookup x=some c->c≠b)/\∀ p∈X.pn++pins,p.1≠b
theorem Inv.fpOk (I:Inv X pins σ H s) (hb:s.heap.objs.size<=b) (hn:H' b=none):nP X pins H' b:=by
 refine ⟨hn,Nat.ne_of_gt (Nat.lt_of_lt_of_le I.lt hb),I.nofs hb,.inr (Nat.le_trans I.sz hb),fun x c e z=>?_,fun p hp z=>?_⟩
 ·obtain ⟨v,q⟩:=I.cell x c e
  exact absurd (Nat.lt_of_lt_of_le q.lt (by rw [z];exact hb)) (Nat.lt_irrefl _)
 ·exact absurd (Nat.lt_of_lt_of_le (Heap.lt_size (I.pin p hp).1) (by rw [z];exact hb)) (Nat.lt_irrefl _)
structure Turn (P:Program) (w:World) (K:W.Frag) (tg:Expr) (J:It) (fp:List Addr) (it:Addr) (tn:Nat->Heap->Prop):Prop where
 mem:it∈fp
 obj:∀ i h,tn i h->∀ b∈fp,∃ o,h.get? b=some o/\∀ v,o.data ≠ .cell v
 keep:∀ i h h',tn i h->(∀ b∈fp,∀ o,h.get? b=some o->h'.get? b=some o)->tn i h'
 item:∀ (X:Cx),X.prog=P->X.w=w->X.K=K->X.calm=true->∀ (i:Nat) (pins:List (Addr×Obj)) (s:Shared) (σ:St) (H:Hp) (E:Value->Shared->Prop),Inv X pins σ H s->(∀ b∈fp,nP X pins H b)->tn i s.heap->J.go i H->
  wpAny (model P w) X.A (pyNext (.ref it)) (fun r s1=>∃ u,r=some u/\
   wpAny (model P w) X.A (letOwnedTupleGo tg (.ref it) u) (fun _ s2=>∃ x H',Inv X pins σ H' s2/\RelV x u/\J.yld i H x H'/\tn (i+1) s2.heap/\∀ b∈fp,H' b=none) E s1) E s
 done:∀ (X:Cx),X.prog=P->X.w=w->X.K=K->X.calm=true->∀ (i:Nat) (pins:List (Addr×Obj)) (s:Shared) (σ:St) (H:Hp) (E:Value->Shared->Prop),Inv X pins σ H s->(∀ b∈fp,nP X pins H b)->tn i s.heap->J.stop i H->
  wpAny (model P w) X.A (pyNext (.ref it)) (fun r s1=>r=none/\Inv X pins σ H s1) E s
 self:∀ (A:Around) (i:Nat) (s:Shared) (Q:Value->Shared->Prop) (E:Value->Shared->Prop),tn i s.heap->Q (.ref it) s->wpAny (model P w) A (pyIter (.ref it)) Q E s
noncomputable abbrev TI:=St->Hp->(It->Hp->Prop)->Prop
noncomputable def PIE (X:Cx) (pins:List (Addr×Obj)) (σ:St) (tg:Expr) (R:It->Hp->Prop) (itv:Value) (s2:Shared):Prop:=
 ∃ (it:Addr) (fp:List Addr) (tn:Nat->Heap->Prop) (J:It) (H':Hp),itv=.ref it/\Inv X pins σ H' s2/\Turn X.prog X.w X.K tg J fp it tn/\tn 0 s2.heap/\(∀ b∈fp,nP X pins H' b)/\R J H'
noncomputable def PI (X:Cx) (tg iter:Expr) (wi:TI):Prop:=
 ∀ (pins:List (Addr×Obj)) (s:Shared) (σ:St) (H:Hp) (R:It->Hp->Prop),Inv X pins σ H s->wi σ H R->
  wpAny (model X.prog X.w) X.A (eval iter X.env) (fun v s1=>wpAny (model X.prog X.w) X.A (pyIter v) (PIE X pins σ tg R) X.xe s1) X.xe s
theorem yi {M : Model} {A : Around} {tg : Expr} {o : Obj} {n : String} {vs : Array Value} {Q : Unit -> Shared -> Prop} (ho : s.heap.get? it = some o) (hc : o.cls = .type n) (hd : o.data = .fields vs)
 (hn : ["enumerate", "zip", "dict_itemiterator", "dict_reverseitemiterator", "odict_iterator", "itertools.zip_longest", "itertools.pairwise"].contains n = false) (hQ : Q () s) : wpAny M A (letOwnedTupleGo tg (.ref it) u) Q E s := by
  unfold letOwnedTupleGo
  cases tg <;> first
    | exact wpAny_pure hQ
    | (cases u <;> first
        | exact wpAny_pure hQ
        | (refine wpAny_bind (wpAny_load ho ?_)
           rw [hc, hd]
           show wpAny M A (if (["enumerate", "zip", "dict_itemiterator", "dict_reverseitemiterator", "odict_iterator", "itertools.zip_longest", "itertools.pairwise"].contains n && vs[0]? == some (rawInt _)) = true then _ else _) Q E s
           rw [if_neg (by intro h; rw [hn, Bool.false_and] at h; cases h)]
           exact wpAny_pure hQ))

noncomputable def Itl (K:W.Frag) (a:Addr):It:=
 ⟨fun i H=>∃ xs x,SqL K H a xs/\xs[i]?=some x,fun i H x H'=>H'=H/\∀ xs,SqL K H a xs->xs[i]?=some x,fun i H=>∃ xs,SqL K H a xs/\xs.length<=i⟩
noncomputable def Itt (K:W.Frag) (a:Addr):It:=
 ⟨fun i H=>∃ xs x,SqT K H a xs/\xs[i]?=some x,fun i H x H'=>H'=H/\∀ xs,SqT K H a xs->xs[i]?=some x,fun i H=>∃ xs,SqT K H a xs/\xs.length<=i⟩
noncomputable def Itr (lo:Int) (n:Nat):It:=⟨fun i _=>i<n,fun i H x H'=>H'=H/\x=.int (lo+i),fun i _=>n<=i⟩
theorem xz {w:World} {K:W.Frag} {tg:Expr} (a it:Addr):Turn P w K tg (Itl K a) [it] it (fun i h=>h.IsListIter it a i) where
 mem:=by simp
 obj:=fun i h st b hb=>by
  have e:b=it:=by simpa using hb
  subst e
  obtain ⟨o,e,c,d⟩:=st
  exact ⟨o,e,fun v z=>by rw [d] at z;cases z⟩
 keep:=fun i h h' st k=>st.at fun o e=>k it (by simp) o e
 item:=by
  intro X hP hw hK hc i pins s σ H E I hf st hg
  subst hP hw hK
  obtain ⟨xs,x,hq,hx⟩:=hg
  obtain ⟨its,rv,p,hz⟩:=I.list hq
  obtain ⟨u,hu,ru⟩:=rv.get hx
  obtain ⟨f0,f1,f2,f3,f4,f5⟩:=hf it (by simp)
  refine wpAny_pyNext_list_item st p.isList (x:=u) (by simpa using hu) fun h' st' sb=>?_
  have I1:Inv X pins σ H { s with heap:=h' }:=I.turned (t':=s.toks) (fun b o hb e=>(sb.2 b hb).trans e) f0 f1 f3 f4 f5
  obtain ⟨o,e,c,d⟩:=id st'
  exact ⟨u,rfl,yi (s:={ s with heap:=h' }) e c d (by decide) ⟨x,H,I1,ru,⟨rfl,fun ys hy=>by rw [I.list_inj hy hq];exact hx⟩,st',fun b hb=>(hf b hb).1⟩⟩
 done:=by
  intro X hP hw hK hc i pins s σ H E I hf st hg
  subst hP hw hK
  obtain ⟨xs,hq,hx⟩:=hg
  obtain ⟨its,rv,p,hz⟩:=I.list hq
  obtain ⟨f0,f1,f2,f3,f4,f5⟩:=hf it (by simp)
  have hl:=rv.length
  exact wpAny_pyNext_list_end (I.ok.hd hc) st p.isList (by simp;omega) fun h' eb=>⟨rfl,I.turned (t':=s.toks) (fun b o hb e=>eb b o hb e) f0 f1 f3 f4 f5⟩
 self:=fun _ _ _ _ _ st h=>wpAny_pyIter_listiter st h
theorem vV {w:World} {K:W.Frag} {tg:Expr} (a it:Addr):Turn P w K tg (Itt K a) [it] it (fun i h=>h.IsTupleIter it a i) where
 mem:=by simp
 obj:=fun i h st b hb=>by
  have e:b=it:=by simpa using hb
  subst e
  obtain ⟨o,e,c,d⟩:=st
  exact ⟨o,e,fun v z=>by rw [d] at z;cases z⟩
 keep:=fun i h h' st k=>st.at fun o e=>k it (by simp) o e
 item:=by
  intro X hP hw hK hc i pins s σ H E I hf st hg
  subst hP hw hK
  obtain ⟨xs,x,hq,hx⟩:=hg
  obtain ⟨its,rv,p,hz⟩:=I.tuple hq
  obtain ⟨u,hu,ru⟩:=rv.get hx
  obtain ⟨f0,f1,f2,f3,f4,f5⟩:=hf it (by simp)
  refine wpAny_pyNext_tuple_item st (show s.heap.IsTuple a its.toArray from p) (x:=u) (by simpa using hu) fun h' st' sb=>?_
  have I1:Inv X pins σ H { s with heap:=h' }:=I.turned (t':=s.toks) (fun b o hb e=>(sb.2 b hb).trans e) f0 f1 f3 f4 f5
  obtain ⟨o,e,c,d⟩:=id st'
  exact ⟨u,rfl,yi (s:={ s with heap:=h' }) e c d (by decide) ⟨x,H,I1,ru,⟨rfl,fun ys hy=>by rw [I.tuple_inj hy hq];exact hx⟩,st',fun b hb=>(hf b hb).1⟩⟩
 done:=by
  intro X hP hw hK hc i pins s σ H E I hf st hg
  subst hP hw hK
  obtain ⟨xs,hq,hx⟩:=hg
  obtain ⟨its,rv,p,hz⟩:=I.tuple hq
  obtain ⟨f0,f1,f2,f3,f4,f5⟩:=hf it (by simp)
  have hl:=rv.length
  exact wpAny_pyNext_tuple_end (I.ok.hd hc) st (show s.heap.IsTuple a its.toArray from p) (by simp;omega) fun h' eb=>⟨rfl,I.turned (t':=s.toks) (fun b o hb e=>eb b o hb e) f0 f1 f3 f4 f5⟩
 self:=fun _ _ _ _ _ st h=>wpAny_pyIter_tupleiter st h
theorem wB {w:World} {K:W.Frag} {tg:Expr} (it:Addr) (lo:Int) (n:Nat):Turn P w K tg (Itr lo n) [it] it (fun i h=>IsRangeIter h it (lo+(i:Nat) * 1) ((n:Int) - (i:Nat)) 1) where
 mem:=by simp
 obj:=fun i h st b hb=>by
  have e:b=it:=by simpa using hb
  subst e
  exact ⟨_,st,fun v z=>by
   have z':Data.fields _=Data.cell v:=z
   cases z'⟩
 keep:=fun i h h' st k=>k it (by simp) _ st
 item:=by
  intro X hP hw hK hc i pins s σ H E I hf st hg
  subst hP hw hK
  obtain ⟨f0,f1,f2,f3,f4,f5⟩:=hf it (by simp)
  have W:=Walks.range (prog:=X.prog) (w:=X.w) (I.ok.hd hc) it lo 1 n
  refine W.item i s _ _ hg st fun v h' tk hv st' kk=>?_
  obtain ⟨t,rfl⟩:=hv
  have I1:Inv X pins σ H { s with heap:=h',toks:=tk }:=I.turned (fun b o hb e=>kk b o (by simpa using hb) e) f0 f1 f3 f4 f5
  refine ⟨_,rfl,yi (s:={ s with heap:=h',toks:=tk }) (n:="range_iterator") st' rfl rfl (by decide) ⟨.int (lo+i),H,I1,⟨t,?_⟩,⟨rfl,rfl⟩,st',fun b hb=>(hf b hb).1⟩⟩
  rw [Int.mul_one]
 done:=by
  intro X hP hw hK hc i pins s σ H E I hf st hg
  subst hP hw hK
  obtain ⟨f0,f1,f2,f3,f4,f5⟩:=hf it (by simp)
  exact wpAny_pyNext_range_end (I.ok.hd hc) st (by have:n<=i:=hg;omega) fun h' eb=>⟨rfl,I.turned (t':=s.toks) (fun b o hb e=>eb b o hb e) f0 f1 f3 f4 f5⟩
 self:=fun _ _ _ _ _ st h=>wpAny_pyIter_rangeiter st h
section
variable {X:Cx} {tg:Expr}
theorem uZ {R:It->Hp->Prop} {lo hi:Int} {t u v:Tok} {tk:Nat} (I:Inv X pins σ H s) (h1 : -(2 ^ 62)<=lo) (h2:lo<2 ^ 62) (h3 : -(2 ^ 62)<=hi) (h4:hi<2 ^ 62)
 (q:R (Itr lo (hi - lo).toNat) H):wpAny (model X.prog X.w) X.A (pyIter (.ref s.heap.objs.size)) (PIE X pins σ tg R) E { s with heap:=s.heap.push { cls:=.type "range",data:=.fields #[.int lo t,.int hi u,.int 1 v] },toks:=tk }:=by
 refine wpAny_pyIter_range (IsRange.new ..) (small_one h1 h2 h3 h4) ?_
 have I1:Inv X pins σ H { s with heap:=s.heap.push { cls:=.type "range",data:=.fields #[.int lo t,.int hi u,.int 1 v] },toks:=tk }:=I.kept fun b o e=>Heap.get?_push_of_some _ e
 refine ⟨(s.heap.push { cls:=.type "range",data:=.fields #[.int lo t,.int hi u,.int 1 v] }).objs.size,[(s.heap.push { cls:=.type "range",data:=.fields #[.int lo t,.int hi u,.int 1 v] }).objs.size],_,_,H,rfl,
  I1.kept (t':=tk) fun b o e=>Heap.get?_push_of_some _ e,wB _ lo (hi - lo).toNat,?_,fun b hb=>?_,q⟩
 ·have e1:lo+((0:Nat):Int) * 1=lo:=by simp
  have e2:(((hi - lo).toNat:Nat):Int) - ((0:Nat):Int)=Builtin.Range.rangeSize lo hi 1:=by rw [rangeSize_one];split <;> omega
  show IsRangeIter _ _ (lo+((0:Nat):Int) * 1) ((((hi - lo).toNat:Nat):Int) - ((0:Nat):Int)) 1
  rw [e1,e2]
  exact Heap.get?_push_size _ rfl
 ·have e:b=(s.heap.push { cls:=.type "range",data:=.fields #[.int lo t,.int hi u,.int 1 v] }).objs.size:=by simpa using hb
  subst e
  exact I1.fpOk (Nat.le_refl _) (I1.hok.fresh (Nat.le_refl _))
noncomputable def IP (ta:TA):TI:=fun σ H R=>ta σ H fun vs H1=>∃ j:Int,vs=[.int j]/\-(2 ^ 62)<=j/\j<2 ^ 62/\R (Itr 0 j.toNat) H1
noncomputable def Jj (ta:TA):TI:=fun σ H R=>ta σ H fun vs H1=>∃ i j:Int,vs=[.int i,.int j]/\(-(2 ^ 62)<=i/\i<2 ^ 62/\-(2 ^ 62)<=j/\j<2 ^ 62)/\R (Itr i (j - i).toNat) H1
theorem yF {a:Expr} {ta:TA} (hg:Gl X "range") (hm:X.mg "range"=none) (ha:PA X [a] ta) (hs:starEach [a] X.env=[(false,eval a X.env)]:=by rfl):PI X tg (.Call (.Name "range" p) [a] [] pos) (IP ta):=by
 intro pins s σ H R I h
 refine Call_ (lK I hg hm boot_range (callWith_type1 (thn (ha pos pins s σ H _ I h) fun us s1 ⟨vs,H1,I1,r1,q1⟩=>?_) hs rfl))
 obtain ⟨j,e,q1,q2,q⟩:=q1
 subst e
 cases r1 with
 | cons r rr=>
  cases rr
  obtain ⟨t,rfl⟩:=r
  exact call_range_1 (uZ I1 (by omega) (by omega) q1 q2 (by simpa using q))
theorem xE {a b:Expr} {ta:TA} (hg:Gl X "range") (hm:X.mg "range"=none) (ha:PA X [a,b] ta) (hs:starEach [a,b] X.env=[(false,eval a X.env),(false,eval b X.env)]:=by rfl) (hs2:starEach [b] X.env=[(false,eval b X.env)]:=by rfl) :
  PI X tg (.Call (.Name "range" p) [a,b] [] pos) (Jj ta):=by
 intro pins s σ H R I h
 refine Call_ (lK I hg hm boot_range (callWith_type1 (thn (ha pos pins s σ H _ I h) fun us s1 ⟨vs,H1,I1,r1,q1⟩=>?_) (by rw [hs,hs2]) (by rw [hs2];rfl)))
 obtain ⟨i,j,e,⟨q1,q2,q3,q4⟩,q⟩:=q1
 subst e
 cases r1 with
 | cons r rr=>
  cases rr with
  | cons r' rr=>
   cases rr
   obtain ⟨t,rfl⟩:=r
   obtain ⟨t',rfl⟩:=r'
   exact call_range_2 (uZ I1 q1 q2 q3 q4 q)
noncomputable def J7 (wi:TI) (g:TG) (tb:TS):TS:=fun D σ H=>wi σ H fun J H1=>∃ W:Nat->Nat->St->Hp->Prop,(∃ m,W 0 m σ H1)/\∀ i m σ H,W i m σ H->
 (J.stop i H/\D.nx σ H)\/(J.go i H/\∃ N:St->Hp->Prop,(∀ σ' H',N σ' H'->∃ m',m'<m/\W (i+1) m' σ' H')/\∀ x H',J.yld i H x H'->g x σ H' fun σ2 H2=>tb { D with nx:=N,ct:=N,bk:=D.nx } σ2 H2)
noncomputable def rz (fp:List Addr) (h:Heap):List (Addr×Obj):=fp.filterMap fun b=>(h.get? b).map fun o=>(b,o)
theorem jN {o:Obj} (hb:b∈fp) (e:h.get? b=some o):(b,o)∈rz fp h:=List.mem_filterMap.mpr ⟨b,hb,by rw [e];rfl⟩
theorem yP {p:Addr×Obj} (hp:p∈rz fp h):p.1∈fp/\h.get? p.1=some p.2:=by
 obtain ⟨b,hb,e⟩:=List.mem_filterMap.mp hp
 cases q:h.get? b with
 | none=>rw [q] at e;cases e
 | some o=>
  rw [q] at e
  have e':(b,o)=p:=Option.some.inj e
  subst e'
  exact ⟨hb,q⟩
theorem Inv.pinned (I:Inv X pins σ H s) (hf:∀ b∈fp,nP X pins H b) (ho:∀ b∈fp,∃ o,s.heap.get? b=some o/\∀ v,o.data ≠ .cell v):Inv X (pins++rz fp s.heap) σ H s:=
 I.pins_of fun p hp=>(List.mem_append.mp hp).elim (fun z=>I.pin p (List.mem_append_right _ z)) fun z=>by
  obtain ⟨hb,e⟩:=yP z
  obtain ⟨f0,f1,f2,_⟩:=hf p.1 hb
  obtain ⟨o,e',d⟩:=ho p.1 hb
  rw [e] at e';cases e'
  exact ⟨e,f0,f1,f2,d⟩
theorem Inv.unpinned {pl:List (Addr×Obj)} (I:Inv X (pins++pl) σ H s):Inv X pins σ H s:=I.pins_of fun p hp=>I.pin p (List.mem_append_right _ (List.mem_append_left _ hp))
theorem BI {body:List Stmt} {wi:TI} {g:TG} {tb:TS} (hp:PassesOwn (model X.prog X.w) X.A X.env X.xe) (hc:X.calm=true) (hi:PI X tg iter wi) (hg:PG X tg g) (hb:PSs X body tb)
 (hs:∀ x,foldedSetIterable iter X.env x=pure x:=by intro _;rfl):PS X (.For tg iter body [] pos) (J7 wi g tb):=by
 intro pins s σ H D I h
 refine wpAny_For (thn (hi pins s σ H _ I h) fun v s1 h1=>thn h1 fun itv s2 h2=>?_) hs
 obtain ⟨it,fp,tn,J,H2,e,I2,T,st2,f2,W,⟨m0,w0⟩,turn⟩:=h2
 subst e
 have stat:∀ {H':Hp},(∀ b∈fp,H' b=none)->∀ b∈fp,nP X pins H' b:=fun hn b hb=>⟨hn b hb,(f2 b hb).2⟩
 refine codeAny_forLoop_any (fun n s'=>∃ i σ' H',Inv X pins σ' H' s'/\tn i s'.heap/\(∀ b∈fp,H' b=none)/\W i n σ' H') ?_ m0 ⟨0,σ,H2,I2,st2,fun b hb=>(f2 b hb).1,w0⟩
 rintro n s3 ⟨i,σ3,H3,I3,st3,fr3,w3⟩
 rcases turn i n σ3 H3 w3 with ⟨stop,qn⟩|⟨go,N,hN,step⟩
 ·refine wpAny_passesOwn hp (thn (T.done X rfl rfl rfl hc i pins s3 σ3 H3 X.xe I3 (stat fr3) st3 stop) fun r s4 ⟨hr,I4⟩=>?_)
  subst hr
  exact wpAny_execs_nil ⟨σ3,H3,I4,qn⟩
 ·refine wpAny_passesOwn hp (thn (T.item X rfl rfl rfl hc i pins s3 σ3 H3 X.xe I3 (stat fr3) st3 go) fun r s4 ⟨u,hr,h4⟩=>?_)
  subst hr
  refine wpAny_passesOwn hp (thn h4 fun _ s5 ⟨x,H5,I5,r5,y5,st5,fr5⟩=>?_)
  have I5':=I5.pinned (stat fr5) (T.obj _ _ st5)
  refine wpAny_passesOwn hp (thn (hg _ s5 σ3 H5 x u _ I5' r5 (step x H5 y5)) fun _ s6 ⟨σ6,H6,I6,q6⟩=>?_)
  refine wpAny_passesOwn hp (thn (hb _ s6 σ6 H6 _ I6 q6) fun f s7 q7=>?_)
  have again:∀ {σ7:St} {H7:Hp},Inv X (pins++rz fp s5.heap) σ7 H7 s7->N σ7 H7->∃ m,m<n/\∃ i σ' H',Inv X pins σ' H' s7/\tn i s7.heap/\(∀ b∈fp,H' b=none)/\W i m σ' H':=fun {σ7 H7} I7 n7=>by
   obtain ⟨m',hm,w7⟩:=hN σ7 H7 n7
   refine ⟨m',hm,i+1,σ7,H7,I7.unpinned,T.keep _ _ _ st5 fun b hb o e=>(I7.pin (b,o) (List.mem_append_right _ (List.mem_append_right _ (jN hb e)))).1,fun b hb=>?_,w7⟩
   obtain ⟨o,e,d⟩:=T.obj _ _ st5 b hb
   exact (I7.pin (b,o) (List.mem_append_right _ (List.mem_append_right _ (jN hb e)))).2.1
  cases f with
  | next=>obtain ⟨σ7,H7,I7,n7⟩:=q7;exact again I7 n7
  | cont=>obtain ⟨σ7,H7,I7,n7⟩:=q7;exact again I7 n7
  | brk=>obtain ⟨σ7,H7,I7,q7⟩:=q7;exact ⟨σ7,H7,I7.unpinned,q7⟩
  | ret v=>obtain ⟨x7,σ7,H7,I7,r7,q7⟩:=q7;exact ⟨x7,σ7,H7,I7.unpinned,r7,q7⟩
end
noncomputable abbrev R2:=V->V->Hp->VK->Prop
noncomputable def OpR (X:Cx) (f:Value->Value->Sem Value) (r:R2):Prop:=
 ∀ (pins:List (Addr×Obj)) (s:Shared) (σ:St) (H:Hp) (x y:V) (v u:Value) (Q:VK),Inv X pins σ H s->RelV x v->RelV y u->r x y H Q->
  wpAny (model X.prog X.w) X.A (f v u) (EP X pins σ Q) X.xe s
noncomputable def UnR (X:Cx) (f:Value->Sem Value) (r:V->Hp->VK->Prop):Prop:=
 ∀ (pins:List (Addr×Obj)) (s:Shared) (σ:St) (H:Hp) (x:V) (v:Value) (Q:VK),Inv X pins σ H s->RelV x v->r x H Q->
  wpAny (model X.prog X.w) X.A (f v) (EP X pins σ Q) X.xe s
noncomputable def kP (X:Cx) (f:Value) (r:List V->Hp->VK->Prop):Prop:=
 ∀ (pins:List (Addr×Obj)) (s:Shared) (σ:St) (H:Hp) (xs:List V) (us:List Value) (Q:VK),Inv X pins σ H s->Vals xs us->r xs H Q->
  wpAny (model X.prog X.w) X.A (call f us) (EP X pins σ Q) X.xe s
noncomputable def Km (X:Cx) (r:V->Hp->(Bool->Hp->Prop)->Prop):Prop:=
 ∀ (pins:List (Addr×Obj)) (s:Shared) (σ:St) (H:Hp) (x:V) (v:Value) (Q:Bool->Hp->Prop),Inv X pins σ H s->RelV x v->r x H Q->
  wpAny (model X.prog X.w) X.A (truthy v) (TP X pins σ Q) X.xe s
noncomputable def tOp (r:R2) (ta tb:TE):TE:=fun σ H Q=>ta σ H fun x H1=>tb σ H1 fun y H2=>r x y H2 Q
noncomputable def tUn (r:V->Hp->VK->Prop) (ta:TE):TE:=fun σ H Q=>ta σ H fun x H1=>r x H1 Q
noncomputable def rI (C:Int->Int->Prop) (g:Int->Int->V):R2:=fun x y H Q=>∃ i j,x=.int i/\y=.int j/\C i j/\Q (g i j) H
noncomputable def rI0 (g:Int->Int->V):R2:=fun x y H Q=>∃ i j,x=.int i/\y=.int j/\Q (g i j) H
noncomputable def rU (g:Int->V):V->Hp->VK->Prop:=fun x H Q=>∃ i,x=.int i/\Q (g i) H
section
variable {X:Cx} {a b c:Expr} {ta tb tc:TE} {pos:Pos}
theorem HK (ha:PE X a ta) (hb:PE X b tb) {R:V->V->Hp->Prop} (I:Inv X pins σ H s)
 (h:ta σ H fun x H1=>tb σ H1 fun y H2=>R x y H2) {Q:Value->Shared->Prop} {f:Value->Value->Sem Value}
 (hf:∀ v u s2 x y H2,Inv X pins σ H2 s2->RelV x v->RelV y u->R x y H2->wpAny (model X.prog X.w) X.A (f v u) Q X.xe s2) :
  wpAny (model X.prog X.w) X.A (eval a X.env) (fun v s₁=>wpAny (model X.prog X.w) X.A (eval b X.env) (fun u s₂=>wpAny (model X.prog X.w) X.A (f v u) Q X.xe s₂) X.xe s₁) X.xe s:=by
 refine thn (ha pins s σ H _ I h) fun v s1 ⟨x,H1,I1,r1,q1⟩=>?_
 refine thn (hb pins s1 σ H1 _ I1 q1) fun u s2 ⟨y,H2,I2,r2,q2⟩=>?_
 exact hf v u s2 x y H2 I2 r1 r2 q2
theorem IA {op:Operator} {r:R2} (ho:OpR X (binaryOp op) r) (ha:PE X a ta) (hb:PE X b tb):PE X (.BinOp a op b pos) (tOp r ta tb):=by
 intro pins s σ H Q I h
 exact wpAny_BinOp (HK ha hb I h fun v u s2 x y H2 I2 rx ry q=>ho pins s2 σ H2 x y v u Q I2 rx ry q)
theorem II {op:UnaryOp} {r:V->Hp->VK->Prop} (ho:UnR X (unaryOp op) r) (ha:PE X a ta):PE X (.UnaryOp op a pos) (tUn r ta):=by
 intro pins s σ H Q I h
 exact UnaryOp_ (thn (ha pins s σ H _ I h) fun v s1 ⟨x,H1,I1,r1,q1⟩=>ho pins s1 σ H1 x v Q I1 r1 q1)
theorem opI {f:Value->Value->Sem Value} {C:Int->Int->Prop} {g:Int->Int->Int}
 (rule:∀ (i j:Int) (t u:Tok) (s:Shared) (Q:Value->Shared->Prop) (E:Value->Shared->Prop),C i j->Q (.int (g i j) s.toks) { s with toks:=s.toks+1 }->wpAny (model X.prog X.w) X.A (f (.int i t) (.int j u)) Q E s) :
  OpR X f (rI C fun i j=>.int (g i j)):=by
 intro pins s σ H x y v u Q I rx ry h
 obtain ⟨i,j,rfl,rfl,hc,q⟩:=h
 obtain ⟨t,rfl⟩:=rx
 obtain ⟨t',rfl⟩:=ry
 exact rule i j t t' s _ _ hc ⟨.int (g i j),H,I.tok _,⟨_,rfl⟩,q⟩
theorem JD {f:Value->Value->Sem Value} {g:Int->Int->Int}
 (rule:∀ (i j:Int) (t u:Tok) (s:Shared) (Q:Value->Shared->Prop) (E:Value->Shared->Prop),Q (.int (g i j) s.toks) { s with toks:=s.toks+1 }->wpAny (model X.prog X.w) X.A (f (.int i t) (.int j u)) Q E s) :
  OpR X f (rI0 fun i j=>.int (g i j)):=by
 intro pins s σ H x y v u Q I rx ry h
 obtain ⟨i,j,rfl,rfl,q⟩:=h
 obtain ⟨t,rfl⟩:=rx
 obtain ⟨t',rfl⟩:=ry
 exact rule i j t t' s _ _ ⟨.int (g i j),H,I.tok _,⟨_,rfl⟩,q⟩
theorem GI {f:Value->Value->Sem Value} {g:Int->Int->Bool}
 (rule:∀ (i j:Int) (t u:Tok) (s:Shared) (Q:Value->Shared->Prop) (E:Value->Shared->Prop),Q (.bool (g i j)) s->wpAny (model X.prog X.w) X.A (f (.int i t) (.int j u)) Q E s) :
  OpR X f (rI0 fun i j=>.bl (g i j)):=by
 intro pins s σ H x y v u Q I rx ry h
 obtain ⟨i,j,rfl,rfl,q⟩:=h
 obtain ⟨t,rfl⟩:=rx
 obtain ⟨t',rfl⟩:=ry
 exact rule i j t t' s _ _ ⟨.bl (g i j),H,I,rfl,q⟩
noncomputable def KK (i j:Int):Prop:=0<j/\j<1073741824
noncomputable def CMul (i j:Int):Prop:=(-(2 ^ 64)<i/\i<2 ^ 64)\/(-(2 ^ 64)<j/\j<2 ^ 64)
theorem CMul.ok {i j:Int} (h:CMul i j):IntMulOk i j:=by
 rcases h with ⟨h1,h2⟩|⟨h1,h2⟩
 ·exact .of_left (intBits_le_64 h1 h2)
 ·exact .of_right (intBits_le_64 h1 h2)
theorem op_add:OpR X (binaryOp .Add) (rI0 fun i j=>.int (i+j)):=JD fun _ _ _ _ _ _ _ q=>add_int q
theorem Fg:OpR X (binaryOp .Sub) (rI0 fun i j=>.int (i - j)):=JD fun _ _ _ _ _ _ _ q=>sub_int q
theorem op_mul:OpR X (binaryOp .Mult) (rI CMul fun i j=>.int (i * j)):=opI fun _ _ _ _ _ _ _ hc q=>mul_int q hc.ok
theorem D0:OpR X (binaryOp .FloorDiv) (rI KK fun i j=>.int (i / j)):=opI fun i j _ _ _ _ _ hc q=>by
 have h1:(0:Int)<j:=hc.1
 have h2:j<1073741824:=hc.2
 exact floordiv_int (by omega) (by rw [Int.fdiv_eq_ediv_of_nonneg i (by omega)];exact q) (.inl (PyProof.noPylong_small (by omega)))
theorem Gr:OpR X (binaryOp .Mod) (rI (fun _ j=>0<j) fun i j=>.int (i % j)):=opI fun i j _ _ _ _ _ hc q=>by
 have h1:(0:Int)<j:=hc
 exact mod_int' (by omega) (by rw [Int.fmod_eq_emod_of_nonneg i (by omega)];exact q)
theorem unI {f:Value->Sem Value} {g:Int->Int}
 (rule:∀ (i:Int) (t:Tok) (s:Shared) (Q:Value->Shared->Prop) (E:Value->Shared->Prop),Q (.int (g i) s.toks) { s with toks:=s.toks+1 }->wpAny (model X.prog X.w) X.A (f (.int i t)) Q E s) :
  UnR X f (rU fun i=>.int (g i)):=by
 intro pins s σ H x v Q I rx h
 obtain ⟨i,rfl,q⟩:=h
 obtain ⟨t,rfl⟩:=rx
 exact rule i t s _ _ ⟨.int (g i),H,I.tok _,⟨_,rfl⟩,q⟩
theorem FG:UnR X (unaryOp .USub) (rU fun i=>.int (-i)):=unI fun _ _ _ _ _ q=>neg_int q
end
section
variable {X:Cx} {a b c:Expr} {ta tb tc:TE} {pos:Pos}
theorem yq {Q:VK} {k k':Bool} (I:Inv X pins σ H s) (q:Q (.bl k) H) (e:k=k'):EP X pins σ Q (.bool k') s:=by
 subst e
 exact ⟨.bl k,H,I,rfl,q⟩
theorem op_lt:OpR X (compareOp .Lt) (rI0 fun i j=>.bl (decide (i<j))):=GI fun _ _ _ _ _ _ _ q=>lt_int q
theorem op_le:OpR X (compareOp .LtE) (rI0 fun i j=>.bl (decide (i<=j))):=GI fun _ _ _ _ _ _ _ q=>le_int q
theorem Ji:OpR X (compareOp .Gt) (rI0 fun i j=>.bl (decide (j<i))):=GI fun _ _ _ _ _ _ _ q=>gt_int q
theorem Hu:OpR X (compareOp .GtE) (rI0 fun i j=>.bl (decide (j<=i))):=GI fun _ _ _ _ _ _ _ q=>ge_int q
theorem yh:OpR X (compareOp .Lt) (fun x y H Q=>∃ i j,x=.str i/\y=.str j/\Q (.bl (decide (i.cps.toList<j.cps.toList))) H):=by
 intro pins s σ H x y v u Q I rx ry h
 obtain ⟨i,j,rfl,rfl,q⟩:=h
 obtain ⟨t,rfl⟩:=rx
 obtain ⟨t',rfl⟩:=ry
 exact lt_str (yq I q rfl)
theorem op_isN:OpR X (compareOp .Is) (fun x y H Q=>y=.non/\Q (.bl (decide (x=.non))) H):=by
 intro pins s σ H x y v u Q I rx ry h
 obtain ⟨rfl,q⟩:=h
 cases ry
 refine is_none_gen (yq I q ?_)
 cases x <;> first
  | (cases rx;rfl)
  | (obtain ⟨t,rfl⟩:=rx;rfl)
theorem OpR.or {f:Value->Value->Sem Value} {r r':R2} (h:OpR X f r) (h':OpR X f r'):OpR X f (fun x y H Q=>r x y H Q\/r' x y H Q):=by
 intro pins s σ H x y v u Q I rx ry q
 rcases q with q|q
 ·exact h pins s σ H x y v u Q I rx ry q
 ·exact h' pins s σ H x y v u Q I rx ry q
theorem jg (b:Expr) {op:CmpOp} (h:op ≠ .In:=by decide) (h2:op ≠ .NotIn:=by decide):behindInMarks op b=false:=by
 have e1:(op==CmpOp.In)=false:=by cases op <;> first|rfl|exact absurd rfl h
 have e2:(op==CmpOp.NotIn)=false:=by cases op <;> first|rfl|exact absurd rfl h2
 cases b <;> simp [behindInMarks,e1,e2]
theorem Cf {op:CmpOp} {r:R2} (ho:OpR X (compareOp op) r) (ha:PE X a ta) (hb:PE X b tb) (hm:behindInMarks op b=false):PE X (.Compare a [op] [b] pos) (tOp r ta tb):=by
 intro pins s σ H Q I h
 exact wpAny_Compare1 (HK ha hb I h fun v u s2 x y H2 I2 rx ry q=>ho pins s2 σ H2 x y v u Q I2 rx ry q) hm
noncomputable def Cc (t:TE):TT:=fun σ H Q=>t σ H fun x H'=>∃ k,x=.bl k/\Q k H'
theorem sy {op:CmpOp} {r:R2} (ho:OpR X (compareOp op) r) (ha:PE X a ta) (hb:PE X b tb) (hm:behindInMarks op b=false):PT X (.Compare a [op] [b] pos) (Cc (tOp r ta tb)):=by
 intro pins s σ H Q I h
 refine wpAny_isTrue_Compare1 (thn (ha pins s σ H _ I h) fun v s1 ⟨x,H1,I1,r1,q1⟩=>thn (hb pins s1 σ H1 _ I1 q1) fun u s2 ⟨y,H2,I2,r2,q2⟩=>
  thn (ho pins s2 σ H2 x y v u _ I2 r1 r2 q2) fun c s3 ⟨z,H3,I3,r3,k,e,q3⟩=>?_) hm
 subst e
 cases r3
 exact wpAny_truthy_bool ⟨H3,I3,q3⟩
noncomputable def BB (r r':R2) (ta tb tc:TE):TE:=fun σ H Q=>ta σ H fun x H1=>tb σ H1 fun y H2=>r x y H2 fun z H3=>∃ k,z=.bl k/\
 (if k=true then tc σ H3 fun w' H4=>r' y w' H4 Q else Q (.bl false) H3)
theorem Ai {op op':CmpOp} {r r':R2} (ho:OpR X (compareOp op) r) (ho':OpR X (compareOp op') r') (ha:PE X a ta) (hb:PE X b tb) (hc:PE X c tc)
 (hm:lastMarks [op,op'] [b,c]=false:=by with_unfolding_all rfl):PE X (.Compare a [op,op'] [b,c] pos) (BB r r' ta tb tc):=by
 intro pins s σ H Q I h
 refine Compare_chain (thn (ha pins s σ H _ I h) fun v s1 ⟨x,H1,I1,r1,q1⟩=>chain_link (thn (hb pins s1 σ H1 _ I1 q1) fun u s2 ⟨y,H2,I2,r2,q2⟩=>
  thn (ho pins s2 σ H2 x y v u _ I2 r1 r2 q2) fun d s3 ⟨z,H3,I3,r3,k,e,q3⟩=>?_)) hm
 subst e
 cases r3
 refine wpAny_truthy_bool ?_
 cases k with
 | false=>exact ite_ff ⟨.bl false,H3,I3,rfl,q3⟩
 | true=>exact ite_tt (chain_last (thn (hc pins s3 σ H3 _ I3 q3) fun w' s4 ⟨z',H4,I4,r4,q4⟩=>ho' pins s4 σ H4 y z' u w' Q I4 r2 r4 q4))
theorem zL {op op':CmpOp} {r r':R2} (ho:OpR X (compareOp op) r) (ho':OpR X (compareOp op') r') (ha:PE X a ta) (hb:PE X b tb) (hc:PE X c tc)
 (hm:lastMarks [op,op'] [b,c]=false:=by with_unfolding_all rfl):PT X (.Compare a [op,op'] [b,c] pos) (Cc (BB r r' ta tb tc)):=by
 intro pins s σ H Q I h
 refine isTrue_chain (thn (ha pins s σ H _ I h) fun v s1 ⟨x,H1,I1,r1,q1⟩=>test_link (thn (hb pins s1 σ H1 _ I1 q1) fun u s2 ⟨y,H2,I2,r2,q2⟩=>
  thn (ho pins s2 σ H2 x y v u _ I2 r1 r2 q2) fun d s3 ⟨z,H3,I3,r3,k,e,q3⟩=>?_)) hm
 subst e
 cases r3
 refine wpAny_truthy_bool ?_
 cases k with
 | false=>
  obtain ⟨k',e',q'⟩:=q3
  cases e'
  exact ite_ff ⟨H3,I3,q'⟩
 | true=>
  refine ite_tt (test_last (thn (hc pins s3 σ H3 _ I3 q3) fun w' s4 ⟨z',H4,I4,r4,q4⟩=>thn (ho' pins s4 σ H4 y z' u w' _ I4 r2 r4 q4) fun d' s5 ⟨z2,H5,I5,r5,k2,e2,q5⟩=>?_))
  subst e2
  cases r5
  exact wpAny_truthy_bool ⟨H5,I5,q5⟩
noncomputable def Jz (K:W.Frag) (x:V) (H:Hp) (k:Bool):Prop:=
 match x with
 | .non=>k=false
 | .bl b=>k=b
 | .int i=>k=(i != 0)
 | .str y=>y.length<=sizeLine/\k=((y.length:Int) != 0)
 | .byt y=>y.size<=sizeLine/\k=((y.size:Int) != 0)
 | .ref p=>(∃ xs,SqL K H p xs/\k = !xs.isEmpty)\/(∃ xs,SqT K H p xs/\k = !xs.isEmpty)\/∃ kvs,H p=some (.dK kvs)/\k = !kvs.isEmpty
 | _=>False
theorem wM {κ:Type} {kvs:List (κ×V)} {vs:List (κ×Value)} (r:KV kvs vs):(!vs.isEmpty) = !kvs.isEmpty:=by
 cases r <;> rfl
theorem nK (r:Vals xs its):(!its.toArray.isEmpty) = !xs.isEmpty:=by
 cases r <;> simp
theorem nR:(sizeLine:Nat)<2 ^ 63:=by rw [sizeLine_eq];decide
theorem D8:Km X (fun x H Q=>∃ k,Jz X.K x H k/\Q k H):=by
 intro pins s σ H x v Q I rx h
 obtain ⟨k,e,q⟩:=h
 have hl:=nR
 have hs:sizeLine=16777216:=sizeLine_eq
 cases x with
 | non=>
  cases rx
  have e':k=false:=e
  subst e'
  exact truthy_none ⟨H,I,q⟩
 | bl b=>
  cases rx
  have e':k=b:=e
  subst e'
  exact wpAny_truthy_bool ⟨H,I,q⟩
 | int i=>
  obtain ⟨t,rfl⟩:=rx
  have e':k=(i != 0):=e
  subst e'
  exact PySem.P.truthy_int ⟨H,I,q⟩
 | str y=>
  obtain ⟨t,rfl⟩:=rx
  obtain ⟨hy,e'⟩:y.length<=sizeLine/\k=((y.length:Int) != 0):=e
  subst e'
  exact PySem.P.truthy_str (by omega) ⟨H,I.tok _,q⟩
 | byt y=>
  obtain ⟨t,rfl⟩:=rx
  obtain ⟨hy,e'⟩:y.size<=sizeLine/\k=((y.size:Int) != 0):=e
  subst e'
  exact W.truthy_bytes (by omega) ⟨H,I.tok _,q⟩
 | ref p=>
  cases rx
  have e':(∃ xs,SqL X.K H p xs/\k = !xs.isEmpty)\/(∃ xs,SqT X.K H p xs/\k = !xs.isEmpty)\/∃ kvs,H p=some (.dK kvs)/\k = !kvs.isEmpty:=e
  rcases e' with ⟨xs,hx,e'⟩|⟨xs,hx,e'⟩|⟨kvs,hx,e'⟩
  ·subst e'
   obtain ⟨its,r,pl,hz⟩:=I.list hx
   have hlen:=r.length
   exact wpAny_truthy_list pl.isList (by simp only [List.size_toArray];omega) ⟨H,I.tok _,by rw [nK r];exact q⟩
  ·subst e'
   obtain ⟨its,r,pl,hz⟩:=I.tuple hx
   have hlen:=r.length
   exact truthy_tuple pl (by simp only [List.size_toArray];omega) ⟨H,I.tok _,by rw [nK r];exact q⟩
  ·subst e'
   obtain ⟨hz,hS,vs,r,m⟩:kvs.length<=sizeLine/\(p==sysModules)=false/\∃ vs,KV kvs vs/\s.heap.DictOf (sM X.prog X.w) p vs:=I.hok p _ hx
   have hlen:kvs.length=vs.length:=Paired.length r
   exact wpAny_truthy_dict hS m (by omega) ⟨H,I.tok _,by rw [wM r];exact q⟩
 | _=>exact (show False from e).elim
theorem zw (ha:PE X a ta) (he:∀ whole,isTrue a X.env whole=(do let v <- whole;standAt a.pos;holding [v] (truthy v))) :
  PT X a (fun σ H Q=>ta σ H fun x H'=>∃ k,Jz X.K x H' k/\Q k H'):=by
 intro pins s σ H Q I h
 exact isTrue_plain (thn (ha pins s σ H _ I h) fun v s1 ⟨x,H1,I1,r1,q1⟩=>D8 pins s1 σ H1 x v Q I1 r1 q1) (he _)
theorem op_add_str:OpR X (binaryOp .Add) (fun x y H Q=>∃ i j,x=.str i/\y=.str j/\i.length+j.length<=sizeLine/\Q (.str (i++j)) H):=by
 intro pins s σ H x y v u Q I rx ry h
 obtain ⟨i,j,rfl,rfl,hz,q⟩:=h
 obtain ⟨t,rfl⟩:=rx
 obtain ⟨t',rfl⟩:=ry
 exact add_str (fun t' tk=>⟨.str (i++j),H,I.tok _,⟨_,rfl⟩,q⟩) hz
theorem Aj {x:V} (r:Vals [x] us):∃ u,us=[u]/\RelV x u:=by
 cases r with
 | cons r1 r2=>cases r2;exact ⟨_,rfl,r1⟩
noncomputable def Ko (K:W.Frag) (x:V) (H:Hp) (n:Nat):Prop:=
 match x with
 | .str y=>y.length<=sizeLine/\n=y.length
 | .byt y=>y.size<=sizeLine/\n=y.size
 | .ref p=>(∃ xs,SqL K H p xs/\n=xs.length)\/∃ xs,SqT K H p xs/\n=xs.length
 | _=>False
theorem zJ:kP X (.builtin "len") (fun xs H Q=>∃ x n,xs=[x]/\Ko X.K x H n/\Q (.int n) H):=by
 intro pins s σ H xs us Q I r h
 obtain ⟨x,n,rfl,e,q⟩:=h
 obtain ⟨u,rfl,rx⟩:=Aj r
 have hl:=nR
 have hs:sizeLine=16777216:=sizeLine_eq
 cases x with
 | str y=>
  obtain ⟨t,rfl⟩:=rx
  obtain ⟨hy,e'⟩:y.length<=sizeLine/\n=y.length:=e
  subst e'
  exact len_str (by omega) ⟨.int _,H,I.tok _,⟨_,rfl⟩,q⟩
 | byt y=>
  obtain ⟨t,rfl⟩:=rx
  obtain ⟨hy,e'⟩:y.size<=sizeLine/\n=y.size:=e
  subst e'
  exact W.len_bytes (by omega) ⟨.int _,H,I.tok _,⟨_,rfl⟩,q⟩
 | ref p=>
  cases rx
  have e':(∃ xs,SqL X.K H p xs/\n=xs.length)\/∃ xs,SqT X.K H p xs/\n=xs.length:=e
  rcases e' with ⟨xs,hx,e'⟩|⟨xs,hx,e'⟩
  ·subst e'
   obtain ⟨its,r',pl,hz⟩:=I.list hx
   have hlen:=r'.length
   exact Calls.call_len_list pl.isList (by simp only [List.size_toArray];omega) ⟨.int xs.length,H,I.tok _,⟨_,by simp only [List.size_toArray];rw [hlen]⟩,q⟩
  ·subst e'
   obtain ⟨its,r',pl,hz⟩:=I.tuple hx
   have hlen:=r'.length
   exact len_tuple pl (by simp only [List.size_toArray];omega) ⟨.int xs.length,H,I.tok _,⟨_,by simp only [List.size_toArray];rw [hlen]⟩,q⟩
 | _=>exact (show False from e).elim
end
structure ObjM (h:Heap) (x dx C:Addr) (mA:Str->Option Value):Prop where
 obj:h.get? x=some (W.instObj C dx)
 ns:h.Ns1 dx mA
 ne:dx≠x
noncomputable def JO (f:Str) (v:V):List (Str×V)->List (Str×V)
 | []=>[(f,v)]
 | (g,x)::r=>if g=f then (g,v)::r else (g,x)::JO f v r
theorem RelO.some_of {o:Option Value} (r:RelO (some v) o):∃ u,o=some u/\RelV v u:=by
 cases o with
 | none=>exact (show False from r).elim
 | some u=>exact ⟨u,rfl,r⟩
structure Cls (K:W.Frag) (C:Addr):Prop where
 pg:W.plainGet K C Str.empty=true
 hd:W.hasDictIn K C=true
 po:W.plainOver K C=true
 sa:W.findIn K (.ref C) "__setattr__"=some (some (.builtin "object.__setattr__"))
noncomputable def FO (K:W.Frag) (C:Addr) (f:Str):Prop:=W.findIn K (.ref C) f=some none
structure Con (K:W.Frag) (C:Addr) (f:Str) (v:V) (u:Value):Prop where
 at_:W.findIn K (.ref C) f=some (some u)
 rel:RelV v u
 get:W.specialIn K u "__get__"=some none
 cp:W.copiedNames.contains f=false
structure Meth (K:W.Frag) (C:Addr) (m:Str) (f:Addr):Prop where
 at_:W.findIn K (.ref C) m=some (some (.ref f))
 fn:W.isFn K (.ref f)=true
 kp:W.keepIn K (.ref f)=true
section
variable {X:Cx} {pins:List (Addr×Obj)} {σ:St} {H:Hp} {s:Shared} {A:Around} {E:Value->Shared->Prop} {Q:Value->Shared->Prop} {c:Value} {b:Bool}
inductive TyOf (K:W.Frag) (H:Hp):V->Value->Prop where
 | non:TyOf K H .non (.type "NoneType")
 | bl (x:Bool):TyOf K H (.bl x) (.type "bool")
 | int (i:Int):TyOf K H (.int i) (.type "int")
 | str (x:Str):TyOf K H (.str x) (.type "str")
 | flt (x:UInt64):TyOf K H (.flt x) (.type "float")
 | lst {a:Addr} {xs:List V} (e:H a=some (.lst xs)):TyOf K H (.ref a) (.type "list")
 | frz {a:Addr} {o:Obj} {xs:List V} (e:H a=some (.frz o (.lst xs))):TyOf K H (.ref a) (.type "list")
 | tup {a:Addr} {xs:List V} (e:H a=some (.tup xs)):TyOf K H (.ref a) (.type "tuple")
 | dK {a:Addr} {kvs:List (Key×V)} (e:H a=some (.dK kvs)):TyOf K H (.ref a) (.type "dict")
 | dT {a:Addr} {kvs:List (List Key×V)} (e:H a=some (.dT kvs)):TyOf K H (.ref a) (.type "dict")
 | ins {a C dx:Addr} {fs:List (Str×V)} (e:H a=some (.ins C dx fs)) (cl:Cls K C) (ha:W.findIn K (.ref C) "__class__"=some (some (.builtin "object.__class__")))
   (hn:W.specialIn K (.builtin "object.__class__") "__get__"=some (some (.builtin "getset_descriptor.__get__"))) (htk:W.takesIn K (.builtin "object.__class__")=some true)
   (hm:W.mroIn K C (.type "object")=some true):TyOf K H (.ref a) (.ref C)
end
structure Room (k:Nat) (A:Around):Prop where
 hd:A.handled=none
 dp:A.depth+3 * k+5<recursionLimit
 un:A.units+16 * k+200<cLine
theorem Room.mono {A:Around} (r:Room k A) (h:j<=k):Room j A:=⟨r.hd,by have:=r.dp;omega,by have:=r.un;omega⟩
theorem Room.deeper {A:Around} (r:Room (k+1) A) (env:Env):Room k (A.deeper env):=
 ⟨r.hd,by have:=r.dp;show A.depth+1+3 * k+5<_;omega,by have:=r.un;show A.units+3+16 * k+200<_;omega⟩
theorem Room.in1 {A:Around} (r:Room (k+1) A):Room k A.in1:=
 ⟨r.hd,by have:=r.dp;show A.depth+3 * k+5<_;omega,by have:=r.un;show A.units+1+16 * k+200<_;omega⟩
theorem Room.depth {A:Around} (r:Room k A):A.depth<recursionLimit:=by have:=r.dp;omega
theorem Room.units {A:Around} (r:Room k A):A.units+64<cLine:=by have:=r.un;omega
noncomputable def Jf:TA:=fun _ H Q=>Q [] H
noncomputable def A7 (ta:TE) (tr:TA):TA:=fun σ H Q=>ta σ H fun x H1=>tr σ H1 fun xs H2=>Q (x::xs) H2
section
variable {X:Cx} {e:Expr} {es:List Expr} {te:TE} {t:TA} {pos:Pos}
theorem lC:PA X [] Jf:=fun _ _ _ _ H Q I h=>Calls.spliced_nil ⟨[],H,I,.nil,h⟩
theorem fN (ha:PE X e te) (hr:PA X es t) (hs:starEach (e::es) X.env=(false,eval e X.env)::starEach es X.env:=by rfl):PA X (e::es) (A7 te t):=by
 intro pos pins s σ H Q I h
 rw [hs]
 show wpAny _ _ (spliced ((false,eval e X.env)::backTo pos (starEach es X.env))) _ _ s
 refine Calls.spliced_cons (thn (ha pins s σ H _ I h) fun u s1 ⟨x,H1,I1,r1,q1⟩=>?_)
 exact thn (hr pos pins s1 σ H1 _ I1 q1) fun us s2 ⟨xs,H2,I2,r2,q2⟩=>⟨x::xs,H2,I2,.cons r1 r2,q2⟩
noncomputable def KP (t:TA):TE:=fun σ H Q=>t σ H fun xs H1=>xs.length<=sizeLine/\∀ p,H1 p=none->Q (.ref p) (upd H1 p (.tup xs))
noncomputable def K6 (t:TA):TE:=fun σ H Q=>t σ H fun xs H1=>xs.length<=sizeLine/\∀ p,H1 p=none->Q (.ref p) (upd H1 p (.lst xs))
theorem Gw {x1} (h:PA X es t):PE X (.Tuple es x1 pos) (KP t):=by
 intro pins s σ H Q I hq
 refine wpAny_Tuple_spliced (thn (h pos pins s σ H _ I hq) fun us s1 ⟨xs,H1,I1,r,z,q⟩=>⟨by rw [<- r.length];exact z,?_⟩)
 have hf:H1 s1.heap.objs.size=none:=I1.hok.fresh (Nat.le_refl _)
 refine ⟨.ref s1.heap.objs.size,upd H1 s1.heap.objs.size (.tup xs),I1.laid (t':=s1.toks) (fun b u e=>Heap.get?_push_of_some _ e) (Nat.le_refl _) ?_,rfl,q _ hf⟩
 exact ⟨z,us,r,⟨_,Heap.get?_push_size _ rfl,rfl,_,rfl⟩⟩
theorem Fw (h:PA X es t):PE X (.List es pos) (K6 t):=by
 intro pins s σ H Q I hq
 refine wpAny_List_spliced (thn (h pos pins s σ H _ I hq) fun us s1 ⟨xs,H1,I1,r,z,q⟩=>⟨by rw [<- r.length];exact z,?_⟩)
 have hf:H1 s1.heap.objs.size=none:=I1.hok.fresh (Nat.le_refl _)
 refine ⟨.ref s1.heap.objs.size,upd H1 s1.heap.objs.size (.lst xs),I1.laid (t':=s1.toks) (fun b u e=>Heap.get?_push_of_some _ e) (Nat.le_refl _) ?_,rfl,q _ hf⟩
 exact ⟨z,us,0,r,Heap.get?_push_size _ rfl⟩
end
noncomputable abbrev Sp:=List V->Hp->VK->XK->Prop
noncomputable abbrev CXT:=List Env->Hp->Shared->XK->Value->Shared->Prop
structure Env0 (P:Program) (w:World) (K:W.Frag) (mg:Str->Option Value) (base:Heap) (A:Around) (outer:List Env) (s:Shared) (H:Hp):Prop where
 frames:A.frames=some outer
 mod:Mod K mg base
 bs:∀ b o,base.get? b=some o->s.heap.get? b=some o/\H b=none
 bsz:base.objs.size<=s.heap.objs.size
 funs:s.heap.FunFrames base outer
 frf:∀ b∈frs outer,H b=none
 hok:HOk P w H s.heap
 bare:AllBare s.gens
 tabs:TabsIn base H
noncomputable def CE (outer:List Env) (P:Program) (w:World) (H:Hp) (s:Shared) (Q:VK) (u:Value) (s':Shared):Prop:=
 ∃ v H',s'.os=s.os/\AllBare s'.gens/\Un (frs outer) [] H H' s.heap s'.heap/\HOk P w H' s'.heap/\RelV v u/\Q v H'
noncomputable def CR (CX:CXT) (outer:List Env) (P:Program) (w:World) (H:Hp) (s:Shared) (Q:VK) (E:XK) (r:Result) (s':Shared):Prop:=
 match r with
 | .ok (.ret u)=>CE outer P w H s Q u s'
 | .ok _=>False
 | .error e=>CX outer H s E e s'
structure FnOk (P:Program) (w:World) (K:W.Frag) (mg:Str->Option Value) (base:Heap) (CX:CXT) (k:Nat) (f:Addr) (fd:FuncData) (ps:List Str) (sp:Sp):Prop where
 len:∀ vs H Q E,sp vs H Q E->vs.length=ps.length
 run:∀ (A:Around) (outer:List Env) (s:Shared) (H:Hp) (args:Args) (us:List Value) (vs:List V) (Q:VK) (E:XK),Room k A->Env0 P w K mg base A outer s H->BindsTo s fd args (ps.zip us)->Vals vs us->sp vs H Q E->
  codeAny (model P w) A (.call (.ref f) args) (CR CX outer P w H s Q E) s
theorem FnOk.imp {w:World} {K:W.Frag} {mg:Str->Option Value} {base:Heap} {CX:CXT} {sp sp':Sp} (F:FnOk P w K mg base CX k f fd ps sp)
 (h:∀ vs H Q E,sp' vs H Q E->sp vs H Q E):FnOk P w K mg base CX k f fd ps sp':=
 ⟨fun vs H Q E q=>F.len vs H Q E (h _ _ _ _ q),fun A outer s H args us vs Q E hr he hb hv hs=>F.run A outer s H args us vs Q E hr he hb hv (h _ _ _ _ hs)⟩
section
variable {X:Cx} {pins:List (Addr×Obj)} {σ:St} {H:Hp} {s s':Shared}
theorem Inv.env0 (I:Inv X pins σ H s):Env0 X.prog X.w X.K X.mg X.base X.A X.stack s H:=
 ⟨I.ok.frames,I.ok.mod,I.bs,Nat.le_trans I.ok.bsz I.sz,I.stack,I.stkFree,I.hok,I.bare,I.ok.tabs.un I.base⟩
theorem Inv.after {Q:VK} (I:Inv X pins σ H s) (h:CE X.stack X.prog X.w H s Q u s'):EP X pins σ Q u s':=by
 obtain ⟨v,H',os,bare,un,hok,r,q⟩:=h
 obtain ⟨hh,g,d,t,os'⟩:=s'
 obtain rfl:os'=s.os:=os
 exact ⟨v,H',I.call (h':=hh) (g':=g) (d':=d) (t':=t) (ch:=[]) un hok bare (fun b z=>absurd z (by simp)),r,q⟩
end
noncomputable def Binds (K:W.Frag) (fd:FuncData) (ps:List Str) (ds:List Value):Prop:=
 ∀ (s:Shared) (us:List Value),K.In s.heap->(us++ds).length=ps.length->BindsTo s fd ⟨us,[]⟩ (ps.zip (us++ds))
theorem Binds.all {K:W.Frag} (h:∀ us:List Value,us.length=ps.length->bindArgs fd ⟨us,[]⟩=pure (ps.zip us)):Binds K fd ps []:=fun s us _ hl=>by
 rw [List.append_nil] at hl ⊢
 exact .of_eq (h us hl)
section
variable {X:Cx} {CX:CXT} {k:Nat} {f C:Addr} {fd:FuncData} {ps:List Str} {sp:Sp} {dvs:List V} {ds:List Value} {E:XK} {x m:Str} {p pos apos:Pos} {e o:Expr} {es:List Expr} {ta:TE} {t:TA}
structure Mk (K:W.Frag) (C f:Addr):Prop where
 makes:W.makesIn K C=true
 init:W.findIn K (.ref C) "__init__"=some (some (.ref f))
 fn:W.isFn K (.ref f)=true
 kp:W.keepIn K (.ref C)=true
end
section
variable {X:Cx} {CX:CXT} {k:Nat} {f C:Addr} {fd:FuncData} {ps ks:List Str} {sp:Sp} {E:XK} {x m:Str} {p pos apos kpos:Pos} {e o:Expr} {es:List Expr} {kws:List Keyword} {te ta:TE} {t tk:TA} {nm:Option Str}
structure KBinds (K:W.Frag) (fd:FuncData) (ps ks:List Str) (g:List Value->List Value->List Value) (gV:List V->List V->List V):Prop where
 to:∀ (s:Shared) (us ws:List Value),K.In s.heap->(g us ws).length=ps.length->BindsTo s fd ⟨us,ks.zip ws⟩ (ps.zip (g us ws))
 rel:∀ {vs:List V} {us:List Value} {zs:List V} {ws:List Value},Vals vs us->Vals zs ws->Vals (gV vs zs) (g us ws)
variable {g:List Value->List Value->List Value} {gV:List V->List V->List V}
end
structure FnScope (N P:List Str) (sc:Scope):Prop where
 kind:sc.kind=.function
 co:sc.isCoroutine=false
 gen:sc.isGenerator=false
 nd:N.Nodup
 pre:N.take P.length=P
 par:∀ x∈P,sc.names.lookup x=some .local\/sc.names.lookup x=some .cell
 nofree:∀ y∈sc.names,y.2 ≠ .free
theorem rN {kindOf:Str->Option NameKind} {x:Str}:∀ {binds:List (Str×Value)} {m:Str->Option Value},(∀ v,(x,v) ∉ binds)->bindL kindOf binds m x=m x
 | [],_,_=>rfl
 | (n,v)::r,m,h=>by
  unfold bindL
  rw [rN fun w hw=>h w (List.mem_cons_of_mem _ hw)]
  split
  ·have:x≠n:=by rintro rfl;exact h v List.mem_cons_self
   simp [this]
  ·rfl
theorem qY {kindOf:Str->Option NameKind} {x:Str}:∀ {binds:List (Str×Value)} {m:Str->Option Value},(∀ v,(x,v) ∉ binds)->bindC kindOf binds m x=m x
 | [],_,_=>rfl
 | (n,v)::r,m,h=>by
  unfold bindC
  rw [qY fun w hw=>h w (List.mem_cons_of_mem _ hw)]
  split
  ·rfl
  ·have:x≠n:=by rintro rfl;exact h v List.mem_cons_self
   simp [this]
theorem rL {kindOf:Str->Option NameKind} {x:Str} {v:Value}:∀ {P:List Str} {vs:List Value} {i:Nat} {m:Str->Option Value},P.Nodup->P[i]?=some x->vs[i]?=some v->kindOf x=some .local->
  bindL kindOf (P.zip vs) m x=some v
 | [],_,_,_,_,h,_,_=>by simp at h
 | _::_,[],_,_,_,_,h,_=>by simp at h
 | p::P,w::vs,0,m,nd,h1,h2,hk=>by
  simp at h1 h2;subst h1;subst h2
  show bindL kindOf ((p,w)::P.zip vs) m p=_
  unfold bindL
  rw [rN fun v hv=>(List.nodup_cons.mp nd).1 (List.of_mem_zip hv).1,if_pos hk]
  simp
 | p::P,w::vs,i+1,m,nd,h1,h2,hk=>by
  show bindL kindOf ((p,w)::P.zip vs) m x=_
  unfold bindL
  exact rL (i:=i) (List.nodup_cons.mp nd).2 (by simpa using h1) (by simpa using h2) hk
theorem rD {kindOf:Str->Option NameKind} {x:Str} {v:Value}:∀ {P:List Str} {vs:List Value} {i:Nat} {m:Str->Option Value},P.Nodup->P[i]?=some x->vs[i]?=some v->kindOf x≠some .local->
  bindC kindOf (P.zip vs) m x=some v
 | [],_,_,_,_,h,_,_=>by simp at h
 | _::_,[],_,_,_,_,h,_=>by simp at h
 | p::P,w::vs,0,m,nd,h1,h2,hk=>by
  simp at h1 h2;subst h1;subst h2
  show bindC kindOf ((p,w)::P.zip vs) m p=_
  unfold bindC
  rw [qY fun v hv=>(List.nodup_cons.mp nd).1 (List.of_mem_zip hv).1,if_neg hk]
  simp
 | p::P,w::vs,i+1,m,nd,h1,h2,hk=>by
  show bindC kindOf ((p,w)::P.zip vs) m x=_
  unfold bindC
  exact rD (i:=i) (List.nodup_cons.mp nd).2 (by simpa using h1) (by simpa using h2) hk
noncomputable def start (N:List Str) (vs:List V):St:=vs.map some++List.replicate (N.length - vs.length) none
noncomputable def kQ (CX:CXT) (P:Program) (w:World) (K:W.Frag) (mg:Str->Option Value) (base:Heap) (N:List Str) (qual:Str) (scope:Scope) (f:Addr) (cd:Value) (A:Around) (outer:List Env) (s:Shared) (H:Hp) (E:XK):Cx where
 prog:=P
 w:=w
 K:=K
 mg:=mg
 base:=base
 A:=A.deeper (envOfC qual scope s.heap.objs.size f cd)
 N:=N
 s₀:=s
 H₀:=H
 env:=envOfC qual scope s.heap.objs.size f cd
 outer:=outer
 stack:=envOfC qual scope s.heap.objs.size f cd::outer
 ex:=[]
 calm:=true
 fn:=fun _=>true
 pn:=[]
 xe:=fun e s'=>wpAny (model P w) (A.deeper (envOfC qual scope s.heap.objs.size f cd)) (leaving (envOfC qual scope s.heap.objs.size f cd) e) (fun _ s''=>CX outer H s E e s'') (fun e' s''=>CX outer H s E e' s'') s'
theorem vC {sc:Scope} {n:Nat} (h:sc.names.lookup x=some .cell):∃ c,(cellsFrom n sc.names []).lookup x=some c:=by
 have q:=W.cellsFrom_some sc.names n [] (.inl h)
 exact Option.isSome_iff_exists.mp q
theorem xW {CX:CXT} {w:World} {K:W.Frag} {mg:Str->Option Value} {base:Heap} {N:List Str} {cd:Value} {A:Around} {outer:List Env} {s1:Shared} {E:XK}
 (S:FnScope N ps scope) (hd:A.handled=none) (e0:Env0 P w K mg base A outer s H) (hl:vs.length=ps.length) (r:Vals vs us)
 (x:InCallC s s.heap.objs.size (bindL (envOfC qual scope s.heap.objs.size f cd).kindOf (ps.zip us) fun _=>none) (cellsFrom (s.heap.objs.size+1) scope.names []) (bindC (envOfC qual scope s.heap.objs.size f cd).kindOf (ps.zip us) fun _=>none) s1) :
  Inv (kQ CX P w K mg base N qual scope f cd A outer s H E) [] (start N vs) H s1:=by
 have hpl:ps.length<=N.length:=by have:=congrArg List.length S.pre;rw [List.length_take] at this;omega
 obtain ⟨h1,tk,rfl,hk⟩:=x.done
 have noA:∀ b:Addr,b ∉ (kQ CX P w K mg base N qual scope f cd A outer s H E).ex:=fun b z=>absurd (show b∈([]:List Addr) from z) (by simp)
 refine ⟨⟨e0.mod,S.kind,rfl,rfl,Nat.le_refl _,fun y z c h1 h2=>?_,fun y hy=>?_,fun y c _ h=>?_,fun _=>hd,Around.frames_deeper e0.frames,.inr ⟨rfl,rfl⟩,fun b z=>absurd z (noA b),e0.bs,e0.bsz,fun b _ _=>noA b,fun b z=>absurd z (noA b),e0.funs,e0.frf,e0.tabs⟩,
  rfl,e0.bare,Un.kept hk,⟨_,x.toInCall.ns,fun i y v h1 h2 h3=>?_⟩,fun y c h=>⟨_,x.cell y c h⟩,e0.hok.fresh (Nat.le_refl _),fun y c h=>?_,fun p hp=>absurd (show p∈([]:List (Addr×Obj)) from hp) (by simp),e0.hok.kept hk,?_⟩
 ·exact name_of_addr x.apart (PySem.mem_of_lookup h1) (PySem.mem_of_lookup h2)
 ·have hy:scope.names.lookup y=some .cell\/scope.names.lookup y=some .free:=hy
  rcases hy with hy|hy
  ·exact vC hy
  ·exact absurd rfl (S.nofree _ (PySem.mem_of_lookup hy))
 ·exact Nat.le_of_lt (x.above y c (PySem.mem_of_lookup h))
 ·have hi:i<vs.length:=by
   unfold start at h2
   by_cases hi:i<vs.length
   ·exact hi
   ·rw [List.getElem?_append_right (by simpa using hi)] at h2
    rw [List.getElem?_replicate] at h2
    split at h2 <;> cases h2
  have ha:vs[i]?=some v:=by
   unfold start at h2
   rw [List.getElem?_append_left (by simpa using hi),List.getElem?_map] at h2
   cases e:vs[i]? with
   | none=>rw [e] at h2;cases h2
   | some a=>rw [e] at h2;cases h2;rfl
  obtain ⟨u,hu,rv⟩:=r.get ha
  have hp:ps[i]?=some y:=by
   rw [<- S.pre,List.getElem?_take_of_lt (by omega)];exact h1
  have ndP:ps.Nodup:=by rw [<- S.pre];exact S.nd.sublist (List.take_sublist _ _)
  refine ⟨u,rv,?_⟩
  rcases S.par y (List.mem_of_getElem? hp) with k|k
  ·exact .inl ⟨k,rL ndP hp hu k⟩
  ·obtain ⟨c,e⟩:=vC (n:=s.heap.objs.size+1) k
   refine .inr ⟨.inl k,c,e,?_⟩
   have q:=x.cell y c e
   rw [rD ndP hp hu (by show scope.names.lookup y≠_;rw [k];decide)] at q
   exact q
 ·exact e0.hok.fresh (Nat.le_of_lt (x.above y c (PySem.mem_of_lookup h)))
 ·unfold start
  show _=N.length
  rw [List.length_append,List.length_map,List.length_replicate]
  omega
theorem C9 {CX:CXT} {w:World} {K:W.Frag} {mg:Str->Option Value} {base:Heap} {name:Str} {params:Arguments} {body:List Stmt} {dV kV doc pm ct oc:Value} {an:Option Addr}
 {N:List Str} {sp:Sp} (lk:K.lookup f=some ⟨oc,od,.func (W.fnOf name qual params body scope dV kV doc pm an cdv ct),osl⟩) (hcd:W.codeIn K cdv qual=true) (S:FnScope N ps scope)
 (len:∀ vs H Q E,sp vs H Q E->vs.length=ps.length)
 (hbody:∀ (A:Around) (outer:List Env) (s:Shared) (H:Hp) (vs:List V) (Q:VK) (E:XK),Room k (A.deeper (envOfC qual scope s.heap.objs.size f cdv))->sp vs H Q E->
 ∃ t,PSs (kQ CX P w K mg base N qual scope f cdv A outer s H E) body t/\t { nx:=fun _ H'=>Q .non H',rt:=Q } (start N vs) H) :
  FnOk P w K mg base CX (k+1) f (W.fnOf name qual params body scope dV kV doc pm an cdv ct) ps sp:=by
 refine ⟨len,fun A outer s H args us vs Q E hr e0 hb r hsp=>?_⟩
 have hl:=len _ _ _ _ hsp
 have KX:K.In s.heap:=e0.mod.kin.keeps fun b o e=>(e0.bs b o e).1
 have lim:s.heap.NoLimit:=e0.mod.nolimit.keeps fun b o e=>(e0.bs b o e).1
 have hkind:∀ y∈ps.zip us,scope.names.lookup y.1=some .local\/(scope.names.lookup y.1=some .cell/\((cellsFrom (s.heap.objs.size+1) scope.names []).lookup y.1).isSome=true):=fun ⟨n,v⟩ hy=>by
  rcases S.par n (List.of_mem_zip hy).1 with q|q
  ·exact .inl q
  ·exact .inr ⟨q,W.cellsFrom_some _ _ _ (.inl q)⟩
 refine codeAny_call_function hr.depth (KX _ _ lk) rfl S.co S.gen rfl (W.codeRec_of KX hcd) (hb _ _ _ _ ?_)
 refine wpAny_newFunctionEnv_cells S.kind hkind fun env he s1 x=>?_
 subst he
 refine ⟨lim.keeps x.toInCall.keep,codeAny_func ?_⟩
 obtain ⟨t,ht,hq⟩:=hbody A outer s H vs Q E (hr.deeper _) hsp
 have I:Inv (kQ CX P w K mg base N qual scope f cdv A outer s H E) [] (start N vs) H s1:=xW S hr.hd e0 hl r x
 refine wpAny_mono (ht [] s1 (start N vs) H _ I hq) (fun fl s' hs=>?_) fun e s' hs=>hs
 have fin:∀ {σ':St} {H':Hp} {v:V} {u:Value},Inv (kQ CX P w K mg base N qual scope f cdv A outer s H E) [] σ' H' s'->RelV v u->Q v H'->CE outer P w H s Q u s':=
  fun {σ' H' v u} J rv q=>⟨v,H',J.os,J.bare,J.base,J.hok,rv,q⟩
 cases fl with
 | ret u=>
  obtain ⟨v,σ',H',J,rv,q⟩:=hs
  exact fin J rv q
 | next=>
  obtain ⟨σ',H',J,q⟩:=hs
  exact fin (v:=V.non) (u:=Value.none) J rfl q
 | brk=>
  obtain ⟨_,_,_,q⟩:=hs
  exact False.elim q
 | cont=>
  obtain ⟨_,_,_,q⟩:=hs
  exact False.elim q
end L2
variable {CX:L2.CXT}
namespace L2
open PySem PySem.Spec PyProof.Rows
section
variable {X:Cx} {x:Str} {p pos:Pos} {e:Expr} {es:List Expr} {t:TA} {id T:String} {r:List V->Hp->VK->Prop}
noncomputable def tCB (r:List V->Hp->VK->Prop) (t:TA):TE:=fun σ H Q=>t σ H fun vs H1=>r vs H1 Q
theorem uY (hc:kP X (.builtin id) r) (hg:Gl X x) (hm:X.mg x=none) (hv:bootBuiltins x=some (.builtin id)) (ha:PA X (e::es) t) (hn:x ≠ "__name__":=by decide) (hdb:(x==("__debug__":Str))=false:=by decide)
 (he:starEach (e::es) X.env=(false,eval e X.env)::starEach es X.env:=by rfl) (hpl:(backTo pos (starEach es X.env)).any (·.1)=false:=by rfl):PE X (.Call (.Name x p) (e::es) [] pos) (tCB r t):=by
 intro pins s σ H Q I h
 refine wpAny_Call_Name_kw (lK I hg hm hv ?_ hn hdb)
 exact callWith_builtin1 (thn (ha pos pins s σ H _ I h) fun us s1 ⟨vs,H1,I1,r1,q1⟩=>hc pins s1 σ H1 vs us Q I1 r1 q1) he hpl
theorem mF (hc:kP X (.type T) r) (hg:Gl X x) (hm:X.mg x=none) (hv:bootBuiltins x=some (.type T)) (ha:PA X (e::es) t) (hn:x ≠ "__name__":=by decide) (hdb:(x==("__debug__":Str))=false:=by decide)
 (he:starEach (e::es) X.env=(false,eval e X.env)::starEach es X.env:=by rfl) (hpl:(backTo pos (starEach es X.env)).any (·.1)=false:=by rfl):PE X (.Call (.Name x p) (e::es) [] pos) (tCB r t):=by
 intro pins s σ H Q I h
 refine wpAny_Call_Name_kw (lK I hg hm hv ?_ hn hdb)
 exact callWith_type1 (thn (ha pos pins s σ H _ I h) fun us s1 ⟨vs,H1,I1,r1,q1⟩=>hc pins s1 σ H1 vs us Q I1 r1 q1) he hpl
end
end L2
namespace HT
open PySem PyProof.Rows
section
open PySem.SeqAt
open PySem.AutoSeq1 (wpAny_loadPart')
open PySem.MeetsSeq PySem.MeetsSeq2 PySem.MeetsSeq3
end
section
variable {prog:Program} {w:World} {A:Around} {E:Value->Shared->Prop} {s:Shared}
theorem cat_tup {t:Addr} {vs ws:List Value} {Q:Value->Shared->Prop} (ht:IsTup s.heap t vs.toArray) (hb:IsTup s.heap b ws.toArray) (hv:vs≠[])
 (h1:ws=[]->Q (.ref t) s) (h2:ws≠[]->Q (.ref s.heap.objs.size) { s with heap:=s.heap.push { cls:=.type "tuple",data:=.seq (vs++ws).toArray } })
 (hsz:vs.length+ws.length<=sizeLine):wpAny (model prog w) A (binaryOp .Add (.ref t) (.ref b)) Q E s:=by
 obtain ⟨⟨cls,dd,data,sl⟩,ho,hc,n,hd⟩:=id ht
 obtain ⟨⟨cls2,dd2,data2,sl2⟩,ho2,hc2,n2,hd2⟩:=id hb
 simp only at hc hd hc2 hd2
 subst hc hd hc2 hd2
 have e:vs.toArray++ws.toArray=(vs++ws).toArray:=by simp
 by_cases hw:ws=[]
 ·exact concat_meets ⟨_,ho,rfl⟩ ⟨_,ho2,rfl⟩ noFill_tuple_add seq_tuple_add F.slot_tuple_add F.entry_tuple_add (F.args_tuple_add_2 _ _)
   (tuple_addW1 t b vs.toArray ws.toArray n n2 dd dd2 sl sl2 (by simpa using hv) (by simp [hw])) ⟨ho,ho2,h1 hw⟩
 ·refine concat_meets ⟨_,ho,rfl⟩ ⟨_,ho2,rfl⟩ noFill_tuple_add seq_tuple_add F.slot_tuple_add F.entry_tuple_add (F.args_tuple_add_2 _ _)
   (tuple_addW2 t b vs.toArray ws.toArray n n2 dd dd2 sl sl2 (by simpa using hv) (by simpa using hw) (by rw [List.size_toArray,List.size_toArray];exact hsz)) ⟨ho,ho2,?_⟩
  rw [e]
  exact h2 hw
noncomputable def sIx (n d:Nat):Option Int->Nat
 | none=>d
 | some v=>if v<0 then (v+(n:Int)).toNat else min v.toNat n
theorem sIx_none (n d:Nat):sIx n d none=d:=rfl
theorem sIx_nat (n d k:Nat):sIx n d (some (k:Int))=min k n:=by
 show (if (k:Int)<0 then ((k:Int)+(n:Int)).toNat else min (k:Int).toNat n)=min k n
 rw [if_neg (by omega),Int.toNat_natCast]
theorem sIx_le (n d:Nat) (hd:d<=n) (o:Option Int):sIx n d o<=n:=by
 cases o with
 | none=>exact hd
 | some v=>
  show (if v<0 then (v+(n:Int)).toNat else min v.toNat n)<=n
  by_cases hv:v<0
  ·rw [if_pos hv];omega
  ·rw [if_neg hv];exact Nat.min_le_right _ _
theorem xO (v:Int) (n d:Nat):(if v<0 then max (v+(n:Int)) 0 else min v (n:Int))=((sIx n d (some v):Nat):Int):=by
 show (if v<0 then max (v+(n:Int)) 0 else min v (n:Int))=(((if v<0 then (v+(n:Int)).toNat else min v.toNat n):Nat):Int)
 by_cases hv:v<0
 ·simp only [if_pos hv];omega
 ·simp only [if_neg hv];omega
theorem wm (lo hi:Option Int) (n:Nat):Builtin.Slice.sliceAdjust lo hi 1 (n:Int)=(((sIx n 0 lo:Nat):Int),((sIx n n hi:Nat):Int)):=by
 have h1 : ¬ ((1:Int)<0):=by omega
 unfold Builtin.Slice.sliceAdjust
 simp only [h1,if_false]
 refine Prod.ext ?_ ?_
 ·cases lo with
  | none=>rfl
  | some v=>exact xO v n 0
 ·cases hi with
  | none=>rfl
  | some v=>exact xO v n n
theorem wt (i j:Nat):Builtin.Slice.slicePlaces (i:Int) (j:Int) 1=j - i:=by
 unfold Builtin.Slice.slicePlaces
 have h1:(1:Int) > 0:=by omega
 simp only [h1,if_true,Int.ediv_one]
 split <;> omega
theorem nQ {v:Value} {o:Option Int} {Q:Option Int->Shared->Prop} (p:IsPart v o) (h:Q o s):wpAny (model prog w) A (Builtin.Slice.slicePartIndex v) Q E s:=by
 cases p with
 | none=>exact slicePart_none h
 | int i t=>exact slicePart_int h
theorem sliceApplied_gen {sl:Addr} {vl vu:Value} {lo hi:Option Int} {n:Nat} {Q:Int×Int×Nat->Shared->Prop} (hs:s.heap.IsSliceOf sl vl vu .none) (pl:IsPart vl lo) (pu:IsPart vu hi)
 (h:Q (((sIx n 0 lo:Nat):Int),1,sIx n n hi - sIx n 0 lo) s):wpAny (model prog w) A (Builtin.Slice.sliceApplied (.ref sl) (pure (n:Int))) Q E s:=by
 obtain ⟨os,hos,hcs,hds⟩:=id hs
 unfold Builtin.Slice.sliceApplied Builtin.Slice.sliceFields
 refine wpAny_bind (wpAny_bind (wpAny_field hos hds (x:=vl) rfl (wpAny_bind (wpAny_field hos hds (x:=vu) rfl (wpAny_bind (wpAny_field hos hds (x:=.none) rfl (wpAny_pure ?_)))))))
 refine wpAny_bind (slicePart_none ?_)
 show wpAny _ _ (if ((1:Int)==0)=true then _ else _) _ _ s
 rw [if_neg (by decide)]
 refine wpAny_bind (nQ pl (wpAny_bind (nQ pu (wpAny_bind (wpAny_pure ?_)))))
 show wpAny _ _ (match Builtin.Slice.sliceAdjust lo hi 1 (n:Int) with|(lo,hi)=>pure (lo,(1:Int),Builtin.Slice.slicePlaces lo hi 1)) _ _ s
 rw [wm lo hi n]
 show wpAny _ _ (pure (((sIx n 0 lo:Nat):Int),(1:Int),Builtin.Slice.slicePlaces ((sIx n 0 lo:Nat):Int) ((sIx n n hi:Nat):Int) 1)) _ _ s
 rw [wt]
 exact wpAny_pure h
theorem An (xs:Array Value) (i k:Nat):((List.range k).filterMap fun (m:Nat)=>xs[((i:Int)+(m:Int) * 1).toNat]?).toArray=((xs.toList.drop i).take k).toArray:=by
 have e:(fun (m:Nat)=>xs[((i:Int)+(m:Int) * 1).toNat]?)=fun m=>xs[i+m]?:=by
  funext m
  have:((i:Int)+(m:Int) * 1).toNat=i+m:=by omega
  rw [this]
 rw [e]
 have:=pick_run xs i k
 rw [List.filterMap_map] at this
 have e2:((fun x=>xs[x]?) ∘ fun x=>i+x)=fun m=>xs[i+m]?:=rfl
 rw [e2] at this
 rw [this]
theorem getItem_tuple_cut {t sl:Addr} {items:Array Value} {vl vu:Value} {lo hi:Option Int} {Q:Value->Shared->Prop} (ht:IsTup s.heap t items) (hs:s.heap.IsSliceOf sl vl vu .none) (pl:IsPart vl lo) (pu:IsPart vu hi)
 (hw : ¬ (sIx items.size 0 lo=0/\sIx items.size items.size hi=items.size))
 (h:Q (.ref s.heap.objs.size) { s with heap:=s.heap.push { cls:=.type "tuple",data:=.seq ((items.toList.drop (sIx items.size 0 lo)).take (sIx items.size items.size hi - sIx items.size 0 lo)).toArray } })
 (hsz:items.size<=sizeLine):wpAny (model prog w) A (getItem (.ref t) (.ref sl)) Q E s:=by
 have htake:sizeOk (.seq ((items.toList.drop (sIx items.size 0 lo)).take (sIx items.size items.size hi - sIx items.size 0 lo)).toArray):=by
  show ((items.toList.drop (sIx items.size 0 lo)).take (sIx items.size items.size hi - sIx items.size 0 lo)).toArray.size<=sizeLine
  rw [List.size_toArray,List.length_take,List.length_drop,Array.length_toList]
  omega
 have hj:sIx items.size items.size hi<=items.size:=sIx_le _ _ (Nat.le_refl _) hi
 obtain ⟨os,hos,hcs,hds⟩:=id hs
 have hTs:s.TypeIs (.ref sl) "slice":=⟨os,hos,hcs⟩
 unfold getItem
 try with_reducible refine wpAny_holding ?_
 first|refine wpAny_bind (wpAny_pure ?_)|skip
 refine wpAny_bind (wpAny_sequenceKey ht.typeIs (by decide) ?_)
 refine wpAny_bind (wpAny_callSpecial?_slot (name:=Str.ofString "__getitem__") ht.typeIs slot_tuple_getitem
  (wpAny_call_entry slot_tuple_getitem ht.typeIs entry_tuple_getitem ?_ (args_tuple_getitem _ _)))
 show wpAny _ _ (Builtin.Tuple.tupleItemsOf (.ref t)>>=_) _ _ s
 refine wpAny_bind (tupleItemsOf_ ht ?_)
 refine wpAny_bind (wpAny_typeOf hTs ?_)
 rw [if_pos (by decide)]
 refine wpAny_bind (sliceApplied_gen hs pl pu ?_)
 have hno : ¬ ((((sIx items.size 0 lo:Nat):Int)==0 && (1:Int)==1 && (sIx items.size items.size hi - sIx items.size 0 lo)==items.size)=true):=by
  intro q
  rw [Bool.and_eq_true,Bool.and_eq_true] at q
  have q1:((sIx items.size 0 lo:Nat):Int)=0:=eq_of_beq q.1.1
  have q2:sIx items.size items.size hi - sIx items.size 0 lo=items.size:=eq_of_beq q.2
  exact hw ⟨by omega,by omega⟩
 show wpAny _ _ (if (((sIx items.size 0 lo:Nat):Int)==0 && (1:Int)==1 && (sIx items.size items.size hi - sIx items.size 0 lo)==items.size)=true then _ else _) _ _ s
 rw [if_neg hno,An]
 first
  | exact wpAny_bind (m:=Builtin.Tuple.tupleExact _) (wpAny_newObj_type (wpAny_pure ⟨_,rfl,wpAny_pure h⟩) htake)
  | exact wpAny_bind (m:=Builtin.Tuple.tupleExact _) (wpAny_newObj_type (wpAny_bind (wpAny_pure (wpAny_pure ⟨_,rfl,wpAny_pure h⟩))) htake)
  | exact wpAny_bind (wpAny_bind (m:=Builtin.Tuple.tupleExact _) (wpAny_newObj_type (wpAny_pure (wpAny_pure ⟨_,rfl,wpAny_pure h⟩)) htake))
  | exact wpAny_bind (wpAny_bind (m:=Builtin.Tuple.tupleExact _) (wpAny_newObj_type (wpAny_pure ⟨_,rfl,wpAny_pure h⟩) htake))
end
end HT
namespace L2
open PySem PySem.Spec PyProof.Rows
noncomputable abbrev TO:=St->Hp->(Option Int->Hp->Prop)->Prop
noncomputable def PO (X:Cx) (e:Option Expr) (t:TO):Prop:=
 ∀ (pins:List (Addr×Obj)) (s:Shared) (σ:St) (H:Hp) (Q:Option Int->Hp->Prop),Inv X pins σ H s->t σ H Q->
  wpAny (model X.prog X.w) X.A (evalPart e X.env) (fun u s'=>∃ o H',Inv X pins σ H' s'/\IsPart u o/\Q o H') X.xe s
noncomputable def DE:TO:=fun _ H Q=>Q none H
noncomputable def HJ (t:TE):TO:=fun σ H Q=>t σ H fun x H1=>∃ i,x=.int i/\Q (some i) H1
section
variable {X:Cx} {e:Expr} {te:TE} {lo hi:Option Expr} {tl th:TO} {pos p2:Pos}
theorem D3:PO X none DE:=by
 intro pins s σ H Q I h
 rw [evalPart_none]
 exact wpAny_pure ⟨none,H,I,.none,h⟩
theorem C8 (h:PE X e te):PO X (some e) (HJ te):=by
 intro pins s σ H Q I hw
 rw [evalPart_some]
 refine thn (h pins s σ H _ I hw) fun u s1 ⟨x,H1,I1,r1,q1⟩=>?_
 obtain ⟨i,rfl,q⟩:=q1
 obtain ⟨t,rfl⟩:=r1
 exact ⟨some i,H1,I1,.int i t,q⟩
noncomputable def SlR (X:Cx) (r:V->Option Int->Option Int->Hp->VK->Prop):Prop:=
 ∀ (pins:List (Addr×Obj)) (s:Shared) (σ:St) (H:Hp) (x:V) (v vl vu:Value) (lo hi:Option Int) (sl:Addr) (Q:VK),Inv X pins σ H s->RelV x v->s.heap.IsSliceOf sl vl vu .none->IsPart vl lo->IsPart vu hi->r x lo hi H Q->
  ∃ T id,typeLookup (.type T) "__getitem__"=pure (some (.builtin id))/\s.TypeIs v T/\wpAny (model X.prog X.w) X.A (getItem v (.ref sl)) (EP X pins σ Q) X.xe s
theorem SlR.or {r r':V->Option Int->Option Int->Hp->VK->Prop} (h:SlR X r) (h':SlR X r'):SlR X (fun x lo hi H Q=>r x lo hi H Q\/r' x lo hi H Q):=by
 intro pins s σ H x v vl vu lo hi sl Q I rx hs pl pu q
 rcases q with q|q
 ·exact h pins s σ H x v vl vu lo hi sl Q I rx hs pl pu q
 ·exact h' pins s σ H x v vl vu lo hi sl Q I rx hs pl pu q
noncomputable def tSl (r:V->Option Int->Option Int->Hp->VK->Prop) (te:TE) (tl th:TO):TE:=fun σ H Q=>te σ H fun x H1=>tl σ H1 fun l H2=>th σ H2 fun u H3=>r x l u H3 Q
theorem AX {r:V->Option Int->Option Int->Hp->VK->Prop} (hr:SlR X r) (he:PE X e te) (hl:PO X lo tl) (hu:PO X hi th):PE X (.Subscript e (.Slice lo hi none p2) pos) (tSl r te tl th):=by
 intro pins s σ H Q I h
 refine Subscript_ (thn (he pins s σ H _ I h) fun v s1 ⟨x,H1,I1,r1,q1⟩=>?_)
 refine wpAny_Slice (thn (hl pins s1 σ H1 _ I1 q1) fun vl s2 ⟨l,H2,I2,pl,q2⟩=>thn (hu pins s2 σ H2 _ I2 q2) fun vu s3 ⟨u,H3,I3,pu,q3⟩=>?_)
 rw [evalPart_none]
 refine wpAny_pure ?_
 have I4:Inv X pins σ H3 { s3 with heap:=s3.heap.push { cls:=.type "slice",data:=.fields #[vl,vu,.none] } }:=I3.kept (t':=s3.toks) fun b ob q=>Heap.get?_push_of_some _ q
 obtain ⟨T,id,hT,ht,hg⟩:=hr pins { s3 with heap:=s3.heap.push { cls:=.type "slice",data:=.fields #[vl,vu,.none] } } σ H3 x v vl vu l u s3.heap.objs.size Q I4 r1 (Heap.IsSliceOf.new ..) pl pu q3
 show wpAny (model X.prog X.w) X.A (subscriptTail e (.Slice lo hi none p2) v (.ref s3.heap.objs.size)) (EP X pins σ Q) X.xe { s3 with heap:=s3.heap.push { cls:=.type "slice",data:=.fields #[vl,vu,.none] } }
 exact tail_any (ops:=[.ref s3.heap.objs.size,v]) ht hT hg (by with_unfolding_all rfl)
noncomputable def Bv (xs:List V) (lo hi:Option Int):List V:=(xs.drop (HT.sIx xs.length 0 lo)).take (HT.sIx xs.length xs.length hi - HT.sIx xs.length 0 lo)
theorem lS (xs:List V) (lo hi:Option Int):(Bv xs lo hi).length<=xs.length:=by
 unfold Bv
 rw [List.length_take,List.length_drop]
 omega
noncomputable def JG (K:W.Frag):V->Option Int->Option Int->Hp->VK->Prop:=fun x lo hi H Q=>∃ a xs,x=.ref a/\SqT K H a xs/\
 ¬ (HT.sIx xs.length 0 lo=0/\HT.sIx xs.length xs.length hi=xs.length)/\∀ p,H p=none->Q (.ref p) (upd H p (.tup (Bv xs lo hi)))
theorem sl_tup:SlR X (JG X.K):=by
 intro pins s σ H x v vl vu lo hi sl Q I rx hs pl pu h
 obtain ⟨a,xs,rfl,hx,hw,q⟩:=h
 cases rx
 obtain ⟨its,r,ht,hz⟩:=I.tuple hx
 have hlen:its.toArray.size=xs.length:=by rw [List.size_toArray];exact r.length.symm
 refine ⟨"tuple",_,slot_tuple_getitem.lookup,ht.typeIs,?_⟩
 refine HT.getItem_tuple_cut ht hs pl pu (by rw [hlen];exact hw) ?_ (by rw [hlen];exact hz)
 rw [hlen]
 refine ⟨.ref s.heap.objs.size,_,I.laid (t':=s.toks) (o:=.tup (Bv xs lo hi)) (fun b ob q=>Heap.get?_push_of_some _ q) (Nat.le_refl _) ?_,rfl,q _ (I.hok.fresh (Nat.le_refl _))⟩
 exact ⟨Nat.le_trans (lS xs lo hi) hz,_,(r.drop (HT.sIx xs.length 0 lo)).take (HT.sIx xs.length xs.length hi - HT.sIx xs.length 0 lo),IsTup.new _ _⟩
noncomputable def IR (K:W.Frag):R2:=fun x y H Q=>∃ a b xs ys,x=.ref a/\y=.ref b/\SqT K H a xs/\SqT K H b ys/\xs≠[]/\xs.length+ys.length<=sizeLine/\
 (ys=[]->Q (.ref a) H)/\(ys≠[]->∀ p,H p=none->Q (.ref p) (upd H p (.tup (xs++ys))))
theorem Vals.nil_iff (r:Vals xs us):us=[] ↔ xs=[]:=by
 cases r with
 | nil=>simp
 | cons _ _=>simp
theorem CJ:OpR X (binaryOp .Add) (IR X.K):=by
 intro pins s σ H x y v u Q I rx ry h
 obtain ⟨a,b,xs,ys,rfl,rfl,ha,hb,hx,hz,q1,q2⟩:=h
 cases rx
 cases ry
 obtain ⟨its,r1,p1,_⟩:=I.tuple ha
 obtain ⟨its2,r2,p2,_⟩:=I.tuple hb
 refine HT.cat_tup p1 p2 (fun z=>hx (r1.nil_iff.mp z)) (fun z=>⟨.ref a,H,I,rfl,q1 (r2.nil_iff.mp z)⟩) (fun z=>?_) (by rw [<- r1.length,<- r2.length];exact hz)
 refine ⟨.ref s.heap.objs.size,_,I.laid (t':=s.toks) (o:=.tup (xs++ys)) (fun b ob q=>Heap.get?_push_of_some _ q) (Nat.le_refl _) ?_,rfl,q2 (fun w=>z (r2.nil_iff.mpr w)) _ (I.hok.fresh (Nat.le_refl _))⟩
 exact ⟨by rw [List.length_append];exact hz,_,r1.append r2,IsTup.new _ _⟩
end
noncomputable def ixN (n:Nat) (i:Int):Option Nat:=if 0<=i then (if i<n then some i.toNat else none) else if -(n:Int)<=i then some (i+n).toNat else none
noncomputable def atI {α:Type} (xs:List α) (i:Int):Option α:=(ixN xs.length i).bind fun j=>xs[j]?
theorem ya {n:Nat} {i:Int} (h:ixN n i=some j):seqIndex? i n=some j/\j<n/\-(n:Int)<=i/\i<n:=by
 unfold ixN at h
 by_cases h0:0<=i
 ·rw [if_pos h0] at h
  by_cases h1:i<n
  ·rw [if_pos h1] at h
   have e:i.toNat=j:=Option.some.inj h
   exact ⟨by rw [seqIndex_of h0 h1,e],by omega,by omega,h1⟩
  ·rw [if_neg h1] at h;cases h
 ·rw [if_neg h0] at h
  by_cases h1 : -(n:Int)<=i
  ·rw [if_pos h1] at h
   have e:(i+n).toNat=j:=Option.some.inj h
   exact ⟨by rw [seqIndex_neg (by omega) h1,e],by omega,h1,by omega⟩
  ·rw [if_neg h1] at h;cases h
theorem uc {α:Type} {xs:List α} {i:Int} {v:α} (h:atI xs i=some v):∃ j,seqIndex? i xs.length=some j/\xs[j]?=some v/\j<xs.length/\-(xs.length:Int)<=i/\i<xs.length:=by
 unfold atI at h
 cases e:ixN xs.length i with
 | none=>rw [e] at h;cases h
 | some j=>
  rw [e] at h
  obtain ⟨h1,h2,h3,h4⟩:=ya e
  exact ⟨j,h1,h,h2,h3,h4⟩
theorem tB {α:Type} {xs:List α} {v:α} (h:xs[j]?=some v):atI xs (j:Int)=some v:=by
 have hj:j<xs.length:=(List.getElem?_eq_some_iff.mp h).1
 have e:ixN xs.length (j:Int)=some j:=by
  unfold ixN
  rw [if_pos (by omega),if_pos (by omega)];simp
 unfold atI;rw [e];exact h
noncomputable def sF (b:Expr):Prop:=∀ o i,subscripted b false o i=operate [o,i] (getItem o i)
noncomputable def IxR (X:Cx) (r:R2):Prop:=
 ∀ (value slice:Expr) (pins:List (Addr×Obj)) (s:Shared) (σ:St) (H:Hp) (x y:V) (v u:Value) (Q:VK),Inv X pins σ H s->RelV x v->RelV y u->r x y H Q->
  subscripted slice false v u=operate [v,u] (getItem v u)->wpAny (model X.prog X.w) X.A (subscriptTail value slice v u) (EP X pins σ Q) X.xe s
noncomputable def MtR (X:Cx) (id:String) (r:V->List V->Hp->VK->Prop):Prop:=
 ∀ (pins:List (Addr×Obj)) (s:Shared) (σ:St) (H:Hp) (x:V) (xs:List V) (v:Value) (us:List Value) (Q:VK),Inv X pins σ H s->RelV x v->Vals xs us->r x xs H Q->
  wpAny (model X.prog X.w) X.A (call (.builtin id) (v::us)) (EP X pins σ Q) X.xe s
section
variable {X:Cx} {a b:Expr} {ta tb:TE} {pos:Pos}
theorem IxR.or {r r':R2} (h:IxR X r) (h':IxR X r'):IxR X (fun x y H Q=>r x y H Q\/r' x y H Q):=by
 intro value slice pins s σ H x y v u Q I rx ry q hs
 rcases q with q|q
 ·exact h value slice pins s σ H x y v u Q I rx ry q hs
 ·exact h' value slice pins s σ H x y v u Q I rx ry q hs
theorem Fm {r:R2} (hr:IxR X r) (ha:PE X a ta) (hb:PE X b tb) (hs:sF b):PE X (.Subscript a b pos) (tOp r ta tb):=by
 intro pins s σ H Q I h
 exact Subscript_ (HK ha hb I h fun v u s2 x y H2 I2 rx ry q=>hr a b pins s2 σ H2 x y v u Q I2 rx ry q (hs _ _))
noncomputable def JJ (K:W.Frag):R2:=fun x y H Q=>∃ p xs i v,x=.ref p/\y=.int i/\SqL K H p xs/\atI xs i=some v/\Q v H
noncomputable def JB (K:W.Frag):R2:=fun x y H Q=>∃ p xs i v,x=.ref p/\y=.int i/\SqT K H p xs/\atI xs i=some v/\Q v H
noncomputable def Jr:R2:=fun x y H Q=>∃ z i c,x=.str z/\y=.int i/\z.length<=sizeLine/\atI z.cps.toList i=some c/\Q (.str ⟨#[c]⟩) H
theorem ix_list:IxR X (JJ X.K):=by
 intro value slice pins s σ H x y v u Q I rx ry h hs
 obtain ⟨p,xs,i,z,rfl,rfl,hq,he,q⟩:=h
 cases rx
 obtain ⟨t,rfl⟩:=ry
 obtain ⟨its,r,pl,hz⟩:=I.list hq
 obtain ⟨j,h1,h2,h3,h4,h5⟩:=uc he
 obtain ⟨w,ew,rw'⟩:=r.get h2
 have hl:=r.length
 have hn:=nR
 have fin:EP X pins σ Q w s:=⟨z,H,I,rw',q⟩
 by_cases h0:0<=i
 ·have hj:i.toNat=j:=by
   rw [seqIndex_of h0 h5] at h1
   exact Option.some.inj h1
  exact item_listR pl.isList h0 (by omega) (by rw [hj];simpa using ew) fin hs
 ·have hj:(i+(its.toArray.size:Int)).toNat=j:=by
   rw [seqIndex_neg (by omega) h4] at h1
   rw [List.size_toArray,<- hl]
   exact Option.some.inj h1
  exact subscriptTail_builtinR (x:=w) pl.isList.typeIs slot_list_getitem.lookup
   (wpAny_getItem_list_neg (Q:=fun r s'=>r=w/\EP X pins σ Q r s') pl.isList (by omega) (by rw [List.size_toArray] <;> omega) (by omega) (by rw [hj];simpa using ew) ⟨rfl,fin⟩) hs
theorem ix_tup:IxR X (JB X.K):=by
 intro value slice pins s σ H x y v u Q I rx ry h hs
 obtain ⟨p,xs,i,z,rfl,rfl,hq,he,q⟩:=h
 cases rx
 obtain ⟨t,rfl⟩:=ry
 obtain ⟨its,r,pl,hz⟩:=I.tuple hq
 obtain ⟨j,h1,h2,h3,h4,h5⟩:=uc he
 obtain ⟨w,ew,rw'⟩:=r.get h2
 have hl:=r.length
 have hn:=nR
 have fin:EP X pins σ Q w s:=⟨z,H,I,rw',q⟩
 exact subscriptTail_builtinR (x:=w) pl.typeIs slot_tuple_getitem.lookup
  (getItem_tuple (j:=j) (Q:=fun r s'=>r=w/\EP X pins σ Q r s') pl (by omega) (by omega) (by rw [List.size_toArray,<- hl];exact h1) (by simpa using ew) ⟨rfl,fin⟩) hs
theorem Fx:IxR X Jr:=by
 intro value slice pins s σ H x y v u Q I rx ry h hs
 obtain ⟨z,i,c,rfl,rfl,hz,he,q⟩:=h
 obtain ⟨t,rfl⟩:=rx
 obtain ⟨t',rfl⟩:=ry
 obtain ⟨j,h1,h2,h3,h4,h5⟩:=uc he
 have hl:z.cps.toList.length=z.length:=by simp [Str.length]
 rw [hl] at h1 h4 h5
 have hn:=nR
 exact tail_any (typeIs_str s z t) slot_str_getitem.lookup (getItem_str (c:=c) (by
  have e1:decide (i < -(2 ^ 63:Int))=false:=decide_eq_false (by omega)
  have e2:decide (i ≥ 2 ^ 63)=false:=decide_eq_false (by omega)
  rw [e1,e2,Bool.or_false]) (by rw [h1];simpa using h2) ⟨.str ⟨#[c]⟩,H,I.tok _,⟨_,rfl⟩,q⟩) hs
noncomputable def rIx (K:W.Frag):R2:=fun x y H Q=>JJ K x y H Q\/JB K x y H Q\/Jr x y H Q
theorem FV:IxR X (rIx X.K):=ix_list.or (ix_tup.or Fx)
theorem wy (its:List Value) (n j:Nat) (u:Value):Obj.mapSeq (·.setIfInBounds j u) { cls:=.type "list",data:=.seq its.toArray n }={ cls:=.type "list",data:=.seq (its.set j u).toArray n }:=by
 simp [Obj.mapSeq]
theorem Inv.lst {p:Addr} (I:Inv X pins σ H s) (h:H p=some (.lst xs)) :
  ∃ (its:List Value) (n:Nat),Vals xs its/\s.heap.get? p=some { cls:=.type "list",data:=.seq its.toArray n }/\xs.length<=sizeLine:=by
 obtain ⟨z,its,n,r,e⟩:=I.hok p _ h
 exact ⟨its,n,r,e,z⟩
theorem Inv.lstUpd {p:Addr} {ys:List V} {its':List Value} {n n':Nat} {f:Obj->Obj} (I:Inv X pins σ H s) (h:H p=some (.lst xs))
 (ho:s.heap.get? p=some { cls:=.type "list",data:=.seq its.toArray n }) (hf:f { cls:=.type "list",data:=.seq its.toArray n }={ cls:=.type "list",data:=.seq its'.toArray n' }) (r:Vals ys its') (hz:ys.length<=sizeLine) (t:Nat) :
  Inv X pins σ (upd H p (.lst ys)) { s with heap:=s.heap.update p f,toks:=t }:=by
 have e:(s.heap.update p f).get? p=some { cls:=.type "list",data:=.seq its'.toArray n' }:=by
  rw [Heap.get?_update_self f ho (by rw [hf] <;> rfl),hf]
 refine I.write (x:=p) (e:=p) (by rw [h];trivial) (.inl rfl) (fun b u hb q=>(Heap.get?_update_other _ _ (Ne.symm hb)).trans q) ⟨_,e⟩ ?_
 exact ⟨hz,its',n',r,e⟩
noncomputable def Im:V->V->V->Hp->(Hp->Prop)->Prop:=fun o i v H Q=>∃ p xs k j,o=.ref p/\i=.int k/\H p=some (.lst xs)/\ixN xs.length k=some j/\Q (upd H p (.lst (xs.set j v)))
theorem zW:GX X Im:=by
 intro pins s σ H o i v ov iv u Q I ro ri rv h
 obtain ⟨p,xs,k,j,rfl,rfl,hp,hj,q⟩:=h
 cases ro
 obtain ⟨t,rfl⟩:=ri
 obtain ⟨its,n,r,ho,hz⟩:=I.lst hp
 obtain ⟨h1,h2,h3,h4⟩:=ya hj
 have hl:=r.length
 have hn:=nR
 have I':Inv X pins σ (upd H p (.lst (xs.set j v))) { s with heap:=s.heap.update p (Obj.mapSeq (·.setIfInBounds j u)) }:=
  I.lstUpd hp ho (wy its n j u) (r.set rv j) (by rw [List.length_set];exact hz) s.toks
 by_cases h0:0<=k
 ·have hk:k.toNat=j:=by
   rw [seqIndex_of h0 h4] at h1
   exact Option.some.inj h1
  exact W.ki_setAt ho h0 (by omega) (by rw [List.size_toArray,<- hl];exact h4) (by rw [hk];exact ⟨_,I',q⟩)
 ·have hk:(k+(its.toArray.size:Int)).toNat=j:=by
   rw [seqIndex_neg (by omega) h3] at h1
   rw [List.size_toArray,<- hl]
   exact Option.some.inj h1
  exact W.ki_setBack ho (by omega) (by rw [List.size_toArray,<- hl];exact h3) (by omega) (by rw [hk];exact ⟨_,I',q⟩)
theorem rX (lo hi:Option Int) (n:Nat):(sliceBounds lo hi none n).1=((HT.sIx n 0 lo:Nat):Int)/\(sliceBounds lo hi none n).2.1=((HT.sIx n n hi:Nat):Int)/\(sliceBounds lo hi none n).2.2=1:=by
 refine ⟨?_,?_,rfl⟩
 ·cases lo with
  | none=>simp [sliceBounds,HT.sIx]
  | some i=>
   simp only [sliceBounds,HT.sIx,Option.getD_none,show (1:Int) > 0 by decide,if_true]
   by_cases h:i<0
   ·simp only [h,if_true] <;> omega
   ·simp only [h,if_false] <;> omega
 ·cases hi with
  | none=>simp [sliceBounds,HT.sIx]
  | some i=>
   simp only [sliceBounds,HT.sIx,Option.getD_none,show (1:Int) > 0 by decide,if_true]
   by_cases h:i<0
   ·simp only [h,if_true] <;> omega
   ·simp only [h,if_false] <;> omega
theorem pW (its:List Value) (lo hi:Option Int):slicePick its.toArray lo hi none=((its.drop (HT.sIx its.length 0 lo)).take (HT.sIx its.length its.length hi - HT.sIx its.length 0 lo)).toArray:=by
 obtain ⟨h1,h2,h3⟩:=rX lo hi its.toArray.size
 unfold slicePick
 rw [h1,h2,h3]
 simp only [sliceRange_one,pick_run,List.size_toArray] <;> rfl
noncomputable def JQ (K:W.Frag):V->Option Int->Option Int->Hp->VK->Prop:=fun x lo hi H Q=>∃ a xs,x=.ref a/\SqL K H a xs/\∀ p,H p=none->Q (.ref p) (upd H p (.lst (Bv xs lo hi)))
theorem Cq:SlR X (JQ X.K):=by
 intro pins s σ H x v vl vu lo hi sl Q I rx hs pl pu h
 obtain ⟨a,xs,rfl,hx,q⟩:=h
 cases rx
 obtain ⟨its,r,ht,hz⟩:=I.list hx
 have hlen:=r.length
 refine ⟨"list",_,slot_list_getitem.lookup,ht.isList.typeIs,?_⟩
 refine wpAny_getItem_list_slice ht.isList hs pl pu .none (by simp) ?_ (by rw [List.size_toArray] <;> omega)
 rw [pW,<- hlen]
 refine ⟨.ref s.heap.objs.size,_,I.laid (t':=s.toks) (o:=.lst (Bv xs lo hi)) (fun b ob q=>Heap.get?_push_of_some _ q) (Nat.le_refl _) ?_,rfl,q _ (I.hok.fresh (Nat.le_refl _))⟩
 exact ⟨Nat.le_trans (lS xs lo hi) hz,_,0,(r.drop (HT.sIx xs.length 0 lo)).take (HT.sIx xs.length xs.length hi - HT.sIx xs.length 0 lo),Heap.get?_push_size _ rfl⟩
theorem km:kP X (.type "list") (fun xs H Q=>∃ p ys,xs=[.ref p]/\(SqL X.K H p ys\/SqT X.K H p ys)/\∀ l,H l=none->Q (.ref l) (upd H l (.lst ys))):=by
 intro pins s σ H xs us Q I r h
 obtain ⟨p,ys,rfl,hq,q⟩:=h
 obtain ⟨u,rfl,rx⟩:=Aj r
 cases rx
 have fin:∀ (its:List Value),Vals ys its->ys.length<=sizeLine->∀ (h':Heap) (c':Nat),(∀ b o',s.heap.get? b=some o'->h'.get? b=some o')->
   h'.get? s.heap.objs.size=some { cls:=.type "list",dict:=none,data:=.seq its.toArray c',slots:=#[] }->EP X pins σ Q (.ref s.heap.objs.size) { s with heap:=h' }:=fun its r' hz h' c' kp e=>
  ⟨.ref s.heap.objs.size,_,I.laid (t':=s.toks) kp (Nat.le_refl _) (show ObjOk X.prog X.w _ h' _ (.lst ys) from ⟨hz,its,c',r',e⟩),rfl,q _ (I.hok.fresh (Nat.le_refl _))⟩
 rcases hq with hq|hq
 ·obtain ⟨its,r',pl,hz⟩:=I.list hq
  have hlen:=r'.length
  obtain ⟨o,ho,hc,n,hd⟩:=pl.isList
  exact call_list_seq p (.inl rfl) ho hc hd (fun h' c' kp e=>fin its r' hz h' c' kp e) (by simp only [List.size_toArray] <;> omega)
 ·obtain ⟨its,r',pl,hz⟩:=I.tuple hq
  have hlen:=r'.length
  obtain ⟨o,ho,hc,n,hd⟩:=pl
  exact call_list_seq p (.inr rfl) ho hc hd (fun h' c' kp e=>fin its r' hz h' c' kp e) (by simp only [List.size_toArray] <;> omega)
theorem ph:kP X (.type "tuple") (fun xs H Q=>∃ p ys,xs=[.ref p]/\((SqL X.K H p ys/\∀ l,H l=none->Q (.ref l) (upd H l (.tup ys)))\/(SqT X.K H p ys/\Q (.ref p) H))):=by
 intro pins s σ H xs us Q I r h
 obtain ⟨p,ys,rfl,h⟩:=h
 obtain ⟨u,rfl,rx⟩:=Aj r
 cases rx
 rcases h with ⟨hq,q⟩|⟨hq,q⟩
 ·obtain ⟨its,r',pl,hz⟩:=I.list hq
  have hlen:=r'.length
  refine call_tuple_list pl.isList (fun h' kp=>?_) (by simp only [List.size_toArray] <;> omega)
  have I1:Inv X pins σ H { s with heap:=h' }:=I.kept (t':=s.toks) kp
  have I2:Inv X pins σ (upd H h'.objs.size (.tup ys)) { s with heap:=h'.push { cls:=.type "tuple",data:=.seq its.toArray } }:=
   I1.laid (t':=s.toks) (fun b o e=>Heap.get?_push_of_some _ e) (Nat.le_refl _) (show ObjOk X.prog X.w _ _ _ (.tup ys) from ⟨hz,its,r',IsTup.new _ _⟩)
  exact ⟨.ref h'.objs.size,_,I2,rfl,q _ (I1.hok.fresh (Nat.le_refl _))⟩
 ·obtain ⟨its,r',pl,hz⟩:=I.tuple hq
  exact call_tuple_same pl ⟨.ref p,H,I,rfl,q⟩
noncomputable def tyV (K:W.Frag) (T:String) (x:V) (H:Hp):Prop:=match x with
 | .str _=>T="str"
 | .int _=>T="int"
 | .ref p=>(T="list"/\∃ xs,SqL K H p xs)\/(T="tuple"/\∃ o,K.lookup p=some o/\o.cls=.type "tuple"/\o.dict=none)\/
   (T="dict"/\((∃ kvs,H p=some (.dK kvs))\/∃ kvs,H p=some (.dT kvs)))\/(T="set"/\∃ S n,H p=some (.set S n))
 | _=>False
theorem EW {T:String} {x:V} {v:Value} (I:Inv X pins σ H s) (r:RelV x v) (ty:tyV X.K T x H) :
  s.TypeIs v T/\∀ a,v=.ref a->∃ ob,s.heap.get? a=some ob/\ob.dict=none:=by
 cases x with
 | str z=>
  obtain ⟨t,rfl⟩:=r
  cases (show T="str" from ty)
  exact ⟨typeIs_str s z t,fun _ e=>nomatch e⟩
 | int i=>
  obtain ⟨t,rfl⟩:=r
  cases (show T="int" from ty)
  exact ⟨typeIs_int s i t,fun _ e=>nomatch e⟩
 | ref p=>
  cases r
  rcases ty with ⟨rfl,xs,hq⟩|⟨rfl,o,hk,hc,hd⟩|⟨rfl,hk⟩|⟨rfl,S,n,hk⟩
  ·obtain ⟨its,_,pl,_⟩:=I.list hq
   refine ⟨pl.isList.typeIs,fun a e=>?_⟩
   cases e
   obtain ⟨o,n,e,c,hd,_⟩:=pl
   exact ⟨o,e,hd⟩
  ·refine ⟨⟨o,I.kIn p o hk,hc⟩,fun a e=>?_⟩
   cases e
   exact ⟨o,I.kIn _ o hk,hd⟩
  ·have z:∃ o,s.heap.get? p=some o/\o.ExactDict:=by
    rcases hk with ⟨kvs,hk⟩|⟨kvs,hk⟩
    ·obtain ⟨_,_,_,_,o,_,_,e,ex,_⟩:=I.hok p _ hk
     exact ⟨o,e,ex⟩
    ·obtain ⟨_,_,_,_,o,_,_,e,ex,_⟩:=I.hok p _ hk
     exact ⟨o,e,ex⟩
   obtain ⟨o,e,ex⟩:=z
   refine ⟨⟨o,e,ex.1⟩,fun a e2=>?_⟩
   cases e2
   exact ⟨o,e,ex.2.1⟩
  ·obtain ⟨o,_,_,_,e,ex,_⟩:=I.hok p _ hk
   refine ⟨⟨o,e,ex.1⟩,fun a e2=>?_⟩
   cases e2
   exact ⟨o,e,ex.2.1⟩
 | _=>exact False.elim ty
noncomputable def tBM (K:W.Frag) (T:String) (r:V->List V->Hp->VK->Prop) (to:TE) (t:TA):TE:=fun σ H Q=>to σ H fun x H1=>tyV K T x H1/\t σ H1 fun xs H2=>r x xs H2 Q
variable {o e:Expr} {es:List Expr} {to:TE} {t:TA} {name:Str} {apos cpos:Pos} {T id:String} {r:V->List V->Hp->VK->Prop}
theorem Ch (pa:PlainAttrs T) (slot:Slot T name id) (hty:typeOf (.builtin id)=pure (.type "method_descriptor")) (hm:MtR X id r) (ho:PE X o to) (ha:PA X (e::es) t)
 (hbase:attributeBase o name X.env (eval o X.env)=eval o X.env:=by rfl)
 (hfew:((backTo cpos (starEach (e::es) X.env)).all (fun x=>!x.1) && (backToKw cpos (keywordEach [] X.env)).all (fun x=>x.1.isSome)
 && decide ((e::es).length+([]:List Keyword).length+(if ([]:List Keyword).isEmpty then 0 else 1)<30))=true:=by rfl)
 (hline:(apos.endLine==cpos.line)=true:=by rfl) (hs:starEach (e::es) X.env=(false,eval e X.env)::starEach es X.env:=by rfl) (hplain:(backTo cpos (starEach es X.env)).any (·.1)=false:=by rfl) :
  PE X (.Call (.Attribute o name apos) (e::es) [] cpos) (tBM X.K T r to t):=by
 intro pins s σ H Q I h
 refine wpAny_Call_method_late hbase hfew hline rfl (thn (ho pins s σ H _ I h) fun v s1 ⟨x,H1,I1,r1,ty,q1⟩=>?_)
 obtain ⟨h1,h2⟩:=EW I1 r1 ty
 refine ⟨T,id,pa,slot,hty,h1,h2,?_⟩
 have hA:=ha cpos pins s1 σ H1 _ I1 q1
 rw [hs] at hA ⊢
 refine Calls.callWith_builtin (by show (false || (backTo cpos (starEach es X.env)).any (·.1))=false;rw [hplain] <;> rfl) (Calls.evalArgs_plain ?_)
 exact thn hA fun us s2 ⟨vs,H2,I2,r2,q2⟩=>hm pins s2 σ H2 x vs v us Q I2 r1 r2 q2
/- xs.append(e),list.index on a module's tuple .. are MtR facts of 06m -/
end
noncomputable def MtM (X:Cx) (id:String) (r:V->List V->Hp->VK->Prop):Prop:=
 ∀ (pins:List (Addr×Obj)) (s:Shared) (σ:St) (H:Hp) (x:V) (xs:List V) (v:Value) (us:List Value) (Q:VK),Inv X pins σ H s->RelV x v->Vals xs us->r x xs H Q->
  wpAny (model X.prog X.w) X.A (call (.builtin id) (v::us)) (EP X pins σ Q) X.xe s
theorem Vals.one:∀ {x:V} {us:List Value},Vals [x] us->∃ u,us=[u]/\RelV x u
 | _,_,.cons r .nil=>⟨_,rfl,r⟩
theorem Vals.two:∀ {x y:V} {us:List Value},Vals [x,y] us->∃ u v,us=[u,v]/\RelV x u/\RelV y v
 | _,_,_,.cons r (.cons q .nil)=>⟨_,_,rfl,r,q⟩
theorem Vals.rep (h:Vals xs us):∀ k:Nat,Vals (List.replicate k xs).flatten (List.replicate k us).flatten
 | 0=>.nil
 | k+1=>by
  rw [List.replicate_succ,List.replicate_succ,List.flatten_cons,List.flatten_cons]
  exact Vals.append h (Vals.rep h k)
theorem iR (its:List Value):∀ (k:Nat) (acc:List Value),
  List.foldl (fun x1 x2=>x1++x2) acc.toArray (List.replicate k its.toArray)=(acc++(List.replicate k its).flatten).toArray
 | 0,acc=>by simp
 | k+1,acc=>by
  have e:acc.toArray++its.toArray=(acc++its).toArray:=by simp
  have e2:(acc++its)++(List.replicate k its).flatten=acc++(List.replicate (k+1) its).flatten:=by
   rw [List.replicate_succ,List.flatten_cons,List.append_assoc]
  rw [<- e2,<- iR its k (acc++its),<- e,List.replicate_succ,List.foldl_cons]
section
variable {X:Cx} {pins:List (Addr×Obj)} {σ:St} {H:Hp} {s:Shared} {l b:Addr} {xs ys zs:List V}
theorem Inv.lset {its':List Value} {n:Nat} {f:Array Value->Array Value} {t':Nat} (I:Inv X pins σ H s) (hH:H l=some (.lst xs))
 (e:s.heap.get? l=some { cls:=.type "list",data:=.seq its.toArray n }) (hf:f its.toArray=its'.toArray) (hv:Vals ys its') (hz:ys.length<=sizeLine) :
  Inv X pins σ (upd H l (.lst ys)) { s with heap:=s.heap.update l (Obj.mapSeq f),toks:=t' }:=by
 have q:=PySem.IsL.update e f
 rw [hf] at q
 refine I.write (x:=l) (e:=l) (by rw [hH];exact trivial) (.inl rfl) (fun b' u hb hu=>(Heap.get?_update_other s.heap (Obj.mapSeq f) (Ne.symm hb)).trans hu) ⟨_,q⟩ ?_
 exact ⟨hz,its',_,hv,q⟩
theorem Inv.lnew {t':Nat} (I:Inv X pins σ H s) (hv:Vals ys its) (hz:ys.length<=sizeLine) :
  Inv X pins σ (upd H s.heap.objs.size (.lst ys)) { s with heap:=s.heap.push { cls:=.type "list",data:=.seq its.toArray },toks:=t' }:=
 I.laid (fun _ _ q=>Heap.get?_push_of_some _ q) (Nat.le_refl _) ⟨hz,its,0,hv,Heap.get?_push_size _ rfl⟩
theorem Inv.fresh (I:Inv X pins σ H s):H s.heap.objs.size=none:=I.hok.fresh (Nat.le_refl _)
theorem Inv.lstM (I:Inv X pins σ H s) (hH:H l=some (.lst xs)):xs.length<=sizeLine/\∃ (its:List Value) (n:Nat),Vals xs its/\xs.length=its.length/\s.heap.get? l=some { cls:=.type "list",data:=.seq its.toArray n }:=by
 obtain ⟨z,its,n,r,e⟩:=I.hok l _ hH
 exact ⟨z,its,n,r,r.length,e⟩
theorem vF {n:Nat} (h:n<=sizeLine):Builtin.List.listTooLong n=false:=by
 unfold Builtin.List.listTooLong
 exact decide_eq_false (by omega)
end
section
variable {X:Cx}
noncomputable def DK:V->List V->Hp->VK->Prop:=fun x vs H Q=>∃ l xs y,x=.ref l/\vs=[y]/\H l=some (.lst xs)/\xs.length<sizeLine/\Q .non (upd H l (.lst (xs++[y])))
theorem rO:MtM X "list.append" DK:=by
 intro pins s σ H x vs v us Q I rx rv h
 obtain ⟨l,xs,y,rfl,rfl,hH,hz,q⟩:=h
 cases rx
 obtain ⟨u,rfl,ru⟩:=rv.one
 obtain ⟨z,its,n,r,hl,e⟩:=I.lstM hH
 refine call_meets F.slot_list_append ⟨_,e,rfl⟩ F.entry_list_append (F.args_list_append_2 _ _) (PySem.list_append l its.toArray n u (by rw [List.size_toArray];omega)) ⟨e,?_⟩
 refine ⟨.non,_,I.lset (its':=its++[u]) hH e (by simp) (r.append (.cons ru .nil)) ?_,rfl,q⟩
 rw [List.length_append,List.length_singleton]
 omega
noncomputable def JK:R2:=fun x y H Q=>∃ l b xs zs,x=.ref l/\y=.ref b/\H l=some (.lst xs)/\H b=some (.lst zs)/\xs.length+zs.length<=sizeLine/\∀ p,H p=none->Q (.ref p) (upd H p (.lst (xs++zs)))
theorem op_cat:OpR X (binaryOp .Add) JK:=by
 intro pins s σ H x y v u Q I rx ry h
 obtain ⟨l,b,xs,zs,rfl,rfl,hH,hB,hz,q⟩:=h
 cases rx
 cases ry
 obtain ⟨z,its,n,r,hl,e⟩:=I.lstM hH
 obtain ⟨z2,its2,n2,r2,hl2,e2⟩:=I.lstM hB
 refine PySem.P.add_list e e2 ?_ (by rw [List.size_toArray,List.size_toArray];omega)
 have ea:its.toArray++its2.toArray=(its++its2).toArray:=by simp
 rw [ea]
 exact ⟨.ref _,_,I.lnew (t':=s.toks) (r.append r2) (by rw [List.length_append];omega),rfl,q _ I.fresh⟩
noncomputable def JF:R2:=fun x y H Q=>∃ l k xs,x=.ref l/\y=.int k/\H l=some (.lst xs)/\-(2 ^ 63)<=k/\k<2 ^ 63/\xs.length * k.toNat<=sizeLine/\
 ∀ p,H p=none->Q (.ref p) (upd H p (.lst (List.replicate k.toNat xs).flatten))
theorem pI {α:Type} (xs:List α) (k:Nat):(List.replicate k xs).flatten.length=k * xs.length:=by
 induction k with
 | zero=>simp
 | succ k ih=>rw [List.replicate_succ,List.flatten_cons,List.length_append,ih,Nat.succ_mul,Nat.add_comm]
theorem EA:OpR X (binaryOp .Mult) JF:=by
 intro pins s σ H x y v u Q I rx ry h
 obtain ⟨l,k,xs,rfl,rfl,hH,h1,h2,hz,q⟩:=h
 cases rx
 obtain ⟨t,rfl⟩:=ry
 obtain ⟨z,its,n,r,hl,e⟩:=I.lstM hH
 have hlen:its.toArray.size * k.toNat<=sizeLine:=by rw [List.size_toArray,<- hl];exact hz
 have hcap : ¬ its.toArray.size * k.toNat > (2 ^ 63 - 1) / 8:=by
  have:(sizeLine:Nat)<=(2 ^ 63 - 1) / 8:=by decide
  omega
 have hfit : ¬ (!Builtin.List.listFitsIndex k)=true:=by
  rw [fitsIndex_both h1 h2]
  exact Bool.false_ne_true
 have hlong : ¬ Builtin.List.listTooLong (its.toArray.size * k.toNat)=true:=by
  rw [vF hlen]
  exact Bool.false_ne_true
 have hnew:List.foldl (fun x1 x2=>x1++x2) #[] (List.replicate (if its.toArray.isEmpty=true then 0 else k.toNat) its.toArray)=(List.replicate k.toNat its).flatten.toArray:=by
  have f0:∀ m:Nat,List.foldl (fun x1 x2=>x1++x2) #[] (List.replicate m its.toArray)=(List.replicate m its).flatten.toArray:=fun m=>by
   have:=iR its m []
   rw [List.nil_append] at this
   exact this
  rw [f0]
  cases its with
  | nil=>simp
  | cons a r'=>rw [if_neg (by simp)]
 refine wpAny_binaryOp_repeat_ref (T:="list") (U:="int") (by decide) ⟨_,e,rfl⟩ (fun s'=>typeIs_int s' k t) noFill_list_mul F.fills_int_mul F.slot_int_rmul repeat_list F.slot_int_index.lookup
  (call_meets F.slot_int_rmul (typeIs_int s k t) F.entry_int_rmul (F.args_int_rmul_2 _ _) (int___rmul___int_list k t l its.toArray n)
   ⟨e,rfl,⟨_,e,rfl⟩,call_meets F.slot_list_mul ⟨_,e,rfl⟩ F.entry_list_mul (F.args_list_mul_2 _ _) (AutoListH.list___mul___list_int_3 l its.toArray n k t hfit hcap hlong) ⟨e,?_⟩⟩)
 rw [hnew]
 exact ⟨.ref _,_,I.lnew (t':=s.toks) (r.rep k.toNat) (by rw [pI,Nat.mul_comm];exact hz),rfl,q _ I.fresh⟩
end
end L2
namespace Att
open PySem PySem.W PySem.Calls PyProof.Rows
theorem mQ {P:Params}:∀ (ns:List Int) (vs:List Value),WellAll P h vs (ns.map WData.int)->IntsAre vs ns:=by
 intro ns
 induction ns with
 | nil=>
  intro vs w
  rw [List.map_nil] at w
  cases w
  exact .nil
 | cons n ns ih=>
  intro vs w
  rw [List.map_cons] at w
  cases w with
  | cons a b=>
   cases a
   exact .cons _ _ (ih _ b)
theorem xh {l:OpenLaw} {n:Nat} (hn:l.most=some n) {P:Params} {args:List WData} {vals:List Value}
 (hpre:l.row.toRowW.claim.pre args=true) (hwl:WellAll P h vals args) :
  ∃ a vs ns,vals=[Value.ref a]/\args=[WData.list (ns.map WData.int)]/\h.get? a=some { cls:=.type "list",data:=.seq vs.toArray }/\IntsAre vs ns/\ns.length<=n:=by
 have hsh:WShape.hasAll [] args [.list .int]=true:=(pre_splitW hpre).1
 have hc:l.pre.holds [] { args:=args }=true:=(pre_splitW hpre).2
 obtain ⟨d,r,rfl,h1,h2⟩:=hasAllW_cons hsh
 obtain rfl:=hasAllW_nil h2
 obtain ⟨xs,rfl,h3⟩:=hasW_list h1
 obtain ⟨ns,rfl⟩:=items_int h3
 have hlen:ns.length<=n:=by
  unfold OpenLaw.pre at hc
  have h4:(WTm.not (.lt (.lit (.int (n:Int))) (.len (.arg 0)))).holds [] { args:=[.list (ns.map .int)] }=true:=by
   have h4:=(holds_andW hc).1
   rw [hn] at h4
   exact h4
  have h5:=condW_of h4 (w_not (w_lt w_lit (w_len_list (w_arg rfl))))
  rw [List.length_map] at h5
  refine Nat.le_of_not_lt fun q=>?_
  have q':(n:Int)<((ns.length:Nat):Int):=by omega
  first
   | (rw [decide_eq_true q'] at h5;exact absurd h5 (by decide))
   | (simp at h5;omega)
 cases hwl with
 | cons w1 w2=>
  cases w2
  cases w1 with
  | list ho hall=>exact ⟨_,_,ns,rfl,rfl,ho,mQ ns _ hall,hlen⟩
theorem xr (l:OpenLaw) (args:List WData):l.row.toRowW.claim.post args (.bool true) args=true:=
 postW_of (r:=l.row.toRowW) (X:=(true==true))
  (show WShape.has [] (.bool true) .bool=true by first|rfl|decide|simp [WShape.has,WShape.arms,WShape.armsAll])
  (show (WTm.eq .res (.lit (.bool true))).value [] { args:=args,res:=some (.bool true),after:=args }=some (.bool (true==true)) from w_eq_bool (w_res rfl) w_lit) rfl
theorem attach_call {l:OpenLaw} {n:Nat} {q:Program} {XP:(Str->Option Value)->Heap->Prop} {YP:World->Heap->Prop} {d:DefRec}
 (hn:l.most=some n) (hdf:d.params.defaults=[])
 (call:∀ (w:World) (s₀ s₁:Shared) (mg mb:Str->Option Value) (fa:Addr) (o:Obj) (pm cd doc:Value) (a:Addr) (vs:List Value) (ns:List Int),
 Ground q loose [] XP w s₀ mg mb s₁.heap->YP w s₁.heap->
 s₁.heap.get? fa=some o->o.data=.func (docDef d.name d.params d.body d.scope pm cd doc)->s₁.heap.CodeRec cd d.name->mg d.name=some (.ref fa)->
 s₁.heap.get? a=some { cls:=.type "list",data:=.seq vs.toArray }->IntsAre vs ns->ns.length<=n->s₁.gens = #[]->
 codeAny (model l.prog w) callerA (.call (.ref fa) ⟨[.ref a],[]⟩) (fun r s'=>r=.ok (.ret (.bool true))/\OldK s₁.heap s'.heap/\s'.os=s₁.os/\AllBare s'.gens) s₁) :
  WalkO q loose XP YP l.row.toRowW d [] (fun f vs=>PySem.call f vs):=by
 intro w s₀ s₁ mg mb G Y fa o pm cd doc dV kV ho hd hcd hD hmg hg args vals as hpre hlay hrd hwl hlo
 obtain rfl:dV=.none:=Dflts.none hD hdf
 obtain rfl:kV=.none:=Dflts.noKw hD
 obtain ⟨a,vs,ns,rfl,rfl,hobj,hints,hlen⟩:=xh hn hpre hwl
 refine enter_call (codeAny_mono (call w s₀ s₁ mg mb fa o pm cd doc a vs ns G Y ho (fd_plain hd) hcd hmg hobj hints hlen hg) fun r s' hq=>?_)
 obtain ⟨rfl,h2,h3,h4⟩:=hq
 exact ⟨.inl ⟨.bool true,.bool true,[],rfl,fun _=>rfl,.bool true,xr l _,fun _=>⟨List.Pairwise.nil,fun _ hm=>(nomatch hm)⟩⟩,h2,h3,h4⟩
section
variable {prog:Program} {w:World} {A:Around} {E:Value->Shared->Prop} {s:Shared} {K:Frag}
noncomputable def Jx (h:Heap) (L d:Addr):List (Addr×Obj):=(List.range h.objs.size).filterMap fun a=>if a=L\/a=d then none else (h.get? a).map fun o=>(a,o)
end
end Att
namespace L2
open PySem PySem.Spec PyProof.Rows
theorem qM:∀ {vs:List Value} {ns:List Int},IntsAre vs ns->Vals (ns.map V.int) vs
 | _,_,.nil=>.nil
 | _,_,.cons n t h=>.cons ⟨t,rfl⟩ (qM h)
noncomputable def GT (H:Hp):Prop:=∀ b,H b=none\/∃ o xs,H b=some (.frz o (.lst xs))
theorem A3 {w:World} {K:W.Frag} {mg mb:Str->Option Value} {fa:Addr} {sp:Sp} {s₁:Shared} {vs:List Value} {ns:List Int}
 (KX:K.In s₁.heap) (hns:s₁.heap.Ns mainGlobals mg) (hb:s₁.heap.Ns builtinsNs mb) (hbb:∀ x:Str,x ≠ "__name__"->mb x=bootBuiltins x) (hlim:s₁.heap.NoLimit) (hg:s₁.gens = #[])
 (ha:s₁.heap.get? a=some { cls:=.type "list",data:=.seq vs.toArray }) (hi:IntsAre vs ns) (hl:ns.length<=sizeLine) (hr:Room k callerA)
 (F:∀ base:Heap,K.In base->base.Ns mainGlobals mg->FnOk P w K mg base CX k fa fd [x] sp) (hbind:∀ (s:Shared) (u:Value),BindsTo s fd ⟨[u],[]⟩ [(x,u)])
 (hsp:∀ H:Hp,GT H->SqL K H a (ns.map V.int)->sp [.ref a] H (fun v _=>v=.bl true) fun _ _ _=>False)
 (hCX:∀ H e s',CX [] H s₁ (fun _ _ _=>False) e s'->False) :
  codeAny (model P w) callerA (.call (.ref fa) ⟨[.ref a],[]⟩) (fun r s'=>r=.ok (.ret (.bool true))/\OldK s₁.heap s'.heap/\s'.os=s₁.os/\AllBare s'.gens) s₁:=by
 have rv:=qM hi
 have lenV:=hi.length
 have core:∀ H:Hp,GT H->SqL K H a (ns.map V.int)->HOk P w H s₁.heap->(∀ b,H b≠none->b=a)->(H a≠none->K.lookup a=none)->
   codeAny (model P w) callerA (.call (.ref fa) ⟨[.ref a],[]⟩) (fun r s'=>r=.ok (.ret (.bool true))/\OldK s₁.heap s'.heap/\s'.os=s₁.os/\AllBare s'.gens) s₁:=by
  intro H hO hS hok hA hK
  have base_of:∀ {b:Addr} {o:Obj},s₁.heap.get? b=some o->H b=none->(zt s₁.heap H).get? b=some o:=fun e n=>AG e n
  have noA:∀ {b:Addr} {o:Obj} {es:Array DictEntry} {ep:Nat},s₁.heap.get? b=some o->o.data=.dict es ep->H b=none:=fun {b o es ep} e d=>by
   cases q:H b with
   | none=>rfl
   | some u=>
    have e':b=a:=hA b (by rw [q];simp)
    subst e'
    rw [ha] at e;cases e
    have d':Data.seq vs.toArray _=Data.dict es ep:=d
    cases d'
  have nsK:∀ {b:Addr} {m:Str->Option Value},s₁.heap.Ns b m->(zt s₁.heap H).Ns b m:=fun {b m} ⟨o,es,ep,e,d,r⟩=>⟨o,es,ep,base_of e (noA e d),d,r⟩
  have hKb:K.In (zt s₁.heap H):=fun b o e=>base_of (KX b o e) (by
   cases q:H b with
   | none=>rfl
   | some u=>
    have e':b=a:=hA b (by rw [q];simp)
    subst e'
    rw [hK (by rw [q];simp)] at e;cases e)
  have hM:Mod K mg (zt s₁.heap H):=⟨hKb,nsK hns,⟨mb,nsK hb,hbb⟩,let ⟨mc,h1,h2⟩:=hlim;⟨mc,nsK h1,h2⟩⟩
  have e0:Env0 P w K mg (zt s₁.heap H) callerA [] s₁ H:=⟨rfl,hM,fun b o e=>B2 e,Nat.le_of_eq (xV _ _),trivial,fun b hb=>absurd (show b∈([]:List Addr) from hb) (by simp),hok,.of_eq hg,wX _ _⟩
  refine codeAny_mono ((F _ hKb (nsK hns)).run callerA [] s₁ H ⟨[.ref a],[]⟩ [.ref a] [.ref a] _ _ hr e0 (hbind s₁ (.ref a)) (.cons rfl .nil) (hsp H hO hS)) fun r s' h=>?_
  cases r with
  | error e=>exact (hCX H e s' h).elim
  | ok fl=>
   cases fl with
   | next=>exact False.elim h
   | brk=>exact False.elim h
   | cont=>exact False.elim h
   | ret u=>
    obtain ⟨v,H',os,bare,un,hok',r',q⟩:=h
    have q':v=.bl true:=q
    subst q'
    obtain rfl:u=Value.bool true:=r'
    refine ⟨rfl,OldK.of_keep fun b o e=>?_,os,bare⟩
    cases q:H b with
    | none=>exact un.keep b o e q (by intro z;exact absurd (show b∈([]:List Addr) from z) (by simp)) (by simp)
    | some u=>
     rcases hO b with z|⟨ob,xs,z⟩
     ·rw [q] at z;cases z
     ·have z2:=un.frzs b ob _ z
      obtain ⟨e1,_⟩:=hok b _ z
      obtain ⟨e2,_⟩:=hok' b _ z2
      rw [e] at e1;cases e1
      exact e2
 cases hk:K.lookup a with
 | some o=>
  have e:=KX a o hk
  rw [ha] at e
  cases e
  refine core (fun _=>none) (fun _=>.inl rfl) (.inr ⟨_,vs.toArray,_,hk,rfl,rfl,rfl,by rw [List.size_toArray,lenV];exact hl,by simpa using rv⟩) (fun b u z=>by have z':(none:Option HO)=some u:=z;cases z') (fun b z=>absurd rfl z) fun z=>absurd rfl z
 | none=>
  refine core (fun b=>if b=a then some (.frz { cls:=.type "list",data:=.seq vs.toArray } (.lst (ns.map V.int))) else none) (fun b=>?_) (.inl (.inr ⟨{ cls:=.type "list",data:=.seq vs.toArray },if_pos rfl⟩)) (fun b u z=>?_) (fun b z=>?_) fun _=>hk
  ·by_cases hb:b=a
   ·exact .inr ⟨_,_,if_pos hb⟩
   ·exact .inl (if_neg hb)
  ·by_cases hb:b=a
   ·have z':=(if_pos hb).symm.trans z
    cases z'
    subst hb
    exact ⟨ha,by rw [List.length_map];exact hl,vs,_,rv,ha⟩
   ·have z':=(if_neg hb).symm.trans z
    cases z'
  ·by_cases hb:b=a
   ·exact hb
   ·exact absurd (if_neg hb) z
noncomputable abbrev KOf {K:W.Frag} {h:Heap} (_:K.In h):W.Frag:=K
theorem xX {l:W.OpenLaw} {n:Nat} {q:Program} {XP:(Str->Option Value)->Heap->Prop} {YP:World->Heap->Prop} {d:DefRec} {K:Params->W.Frag} {CX:World->CXT} {sp:World->Sp}
 (hn:l.most=some n) (hn2:n<=sizeLine) (hdf:d.params.defaults=[]) (hr:Room k callerA)
 (hY:∀ (w:World) (h:Heap),YP w h->(K w.params).In h)
 (F:∀ (w:World) (mg:Str->Option Value) (fa:Addr) (h:Heap),(K w.params).In h->h.Ns mainGlobals mg->mg d.name=some (.ref fa)->
 ∃ fd:FuncData,(∀ (s:Shared) (u:Value),BindsTo s fd ⟨[u],[]⟩ [(x,u)])/\
 ∀ base:Heap,(K w.params).In base->base.Ns mainGlobals mg->FnOk l.prog w (K w.params) mg base (CX w) k fa fd [x] (sp w))
 (hsp:∀ (w:World) (H:Hp) (a:Addr) (ns:List Int),ns.length<=n->GT H->SqL (K w.params) H a (ns.map V.int)->sp w [.ref a] H (fun v _=>v=.bl true) fun _ _ _=>False)
 (hCX:∀ (w:World) (H:Hp) (s:Shared) (e:Value) (s':Shared),CX w [] H s (fun _ _ _=>False) e s'->False) :
  W.WalkO q loose XP YP l.row.toRowW d [] (fun f vs=>PySem.call f vs):=by
 refine Att.attach_call hn hdf fun w s₀ s₁ mg mb fa o pm cd doc a vs ns G Y ho hd hcd hmg hobj hints hlen hg=>?_
 have KX:=hY w _ Y
 obtain ⟨fd,hb,hF⟩:=F w mg fa _ KX G.T.g hmg
 exact A3 KX G.T.g G.T.b G.T.builtins G.T.nolimit hg hobj hints (Nat.le_trans hlen hn2) hr hF hb (fun H hO hS=>hsp w H a ns hlen hO hS) fun H e s'=>hCX w H s₁ e s'
end L2
/- THE LAST THEOREM (shape;LID,My.* are yours):
  My.Adr: a structure of the addresses that your layer names (classes,functions);My.Txt K t: a structure (Prop) of the equations over K;
  My.txt_mk:{K} {implicit addresses ..} (e1:nsIn K mainGlobals "law"=some (some (.ref f))) (e2:K.lookup f=some ⟨oc,od,.func (fnOf "law" "law" params body scope dV kV doc pm an cdv ct),sl⟩) (e3:codeIn K cdv "law"=true) .. : ∃ t,My.Txt K t
set_option maxRecDepth 100000 in
set_option maxHeartbeats 0 in
theorem PySem.Challenge.cw_LID_holds : PySem.Challenge.rw_LID.Holds := by
 w_on;o_law;k_head;(case hw=>w_witness2)
 k_fill
 refine L2.xX (l:=PySem.Challenge.rw_LID) (n:=63) (k:=40) (x:="script") (CX:=fun w=>..) (sp:=fun _=>My.sp_law) rfl (by decide) rfl ⟨rfl,by decide,by decide⟩ (fun w h Y=>PySem.W.kIn_of Y) ?F ?S ?C
 case F=>
  intro w mg fa h KX G hmg
  have T:∃ t,My.Txt (L2.KOf KX) t:=by
   dsimp only [L2.KOf]
   refine' My.txt_mk ?e1 ?e2 ?e3 ..
   (case e1=>PySem.W.k_is)
   (case e2=>PySem.W.k_is)
   ..
  obtain ⟨t,T⟩:=T
  have e0:=hmg.symm.trans (PySem.W.mg_of KX G T.law)
  cases e0
  exact ⟨_,fun s u=>.of_eq rfl,fun base kb nb=>My.law_fn T kb nb⟩
 case S=>exact fun w H a ns hl hO hS=>..
 case C=>exact ..
(the tactic k_is has no namespace: write k_is) -/
namespace L2
open PySem PySem.Spec PyProof.Rows
noncomputable def iG (s:Stmt):Arguments:=match s with
 | .FunctionDef _ a _ _ _ _ _ _ _ _=>a
 | _=>{ posonlyargs:=[],args:=[],vararg:=none,kwonlyargs:=[],kw_defaults:=[],kwarg:=none,defaults:=[] }
noncomputable def ck (s:Stmt):List Stmt:=match s with
 | .FunctionDef _ _ b _ _ _ _ _ _ _=>b
 | _=>[]
noncomputable def am (s:Stmt):Scope:=match s with
 | .FunctionDef _ _ _ _ _ _ sc _ _ _=>sc
 | _=>{ kind:=.function,names:=[],isGenerator:=false,isCoroutine:=false }
structure Fun (K:PySem.W.Frag) (x qual:Str) (st:Stmt) (f:Addr) (fd:FuncData):Prop where
 ex:∃ (oc:Value) (od:Option Addr) (kV doc pm:Value) (an:Option Addr) (cdv ct:Value) (osl:Array (Option Value)),
  fd=PySem.W.fnOf x qual (iG st) (ck st) (am st) .none kV doc pm an cdv ct/\K.lookup f=some ⟨oc,od,.func fd,osl⟩/\PySem.W.codeIn K cdv qual=true
 kp:PySem.W.keepIn K (.ref f)=true
section
variable {P:Program} {w:World} {K:PySem.W.Frag} {mg:Str->Option Value} {base:Heap}
theorem Fun.binds (F:Fun K x qual st f fd)
 (h:∀ (kV doc pm:Value) (an:Option Addr) (cdv ct:Value) (us:List Value),us.length=ps.length->bindArgs (PySem.W.fnOf x qual (iG st) (ck st) (am st) .none kV doc pm an cdv ct) ⟨us,[]⟩=pure (ps.zip us)):Binds K fd ps []:=by
 obtain ⟨oc,od,kV,doc,pm,an,cdv,ct,osl,rfl,lk,hcd⟩:=F.ex
 exact .all (h kV doc pm an cdv ct)
theorem Fa {oc:Value} {an:Option Addr} {kV doc pm ct:Value} (l:K.lookup f=some ⟨oc,od,.func (PySem.W.fnOf x qual (iG st) (ck st) (am st) .none kV doc pm an cdv ct),osl⟩)
 (c:PySem.W.codeIn K cdv qual=true) (k:PySem.W.keepIn K (.ref f)=true):Fun K x qual st f (PySem.W.fnOf x qual (iG st) (ck st) (am st) .none kV doc pm an cdv ct):=⟨⟨oc,od,kV,doc,pm,an,cdv,ct,osl,rfl,l,c⟩,k⟩
end
noncomputable def Same (H H':Hp):Prop:=∀ b o,H b=some o->H' b=some o
theorem Same.refl (H:Hp):Same H H:=fun _ _ h=>h
theorem Same.trans {H1 H2:Hp} (a:Same H H1) (b:Same H1 H2):Same H H2:=fun c o h=>b c o (a c o h)
theorem Same.free (e:Same H H') {l:Addr} (h:H' l=Option.none):H l=Option.none:=by
 cases q:H l with
 | none=>rfl
 | some o=>
  rw [e l o q] at h
  cases h
theorem Same.seq {K:PySem.W.Frag} (e:Same H H') (h:SqL K H a xs):SqL K H' a xs:=by
 rcases h with (h|⟨o,h⟩)|h
 ·exact .inl (.inl (e _ _ h))
 ·exact .inl (.inr ⟨o,e _ _ h⟩)
 ·exact .inr h
end L2
namespace L2
open PySem PySem.Spec PyProof.Rows
open PySem.MeetsSeq PySem.MeetsSeq2 PySem.MeetsSeq3
section
variable {prog:Program} {w:World} {A:Around} {E:Value->Shared->Prop} {s:Shared}
theorem DB {b:Bool} {Q:Int->Shared->Prop} (h:Q (if b then 1 else 0) { s with toks:=s.toks+1 }):wpAny (model prog w) A (pyHash (.bool b)) Q E s:=by
 have t:s.TypeIs (.bool b) "bool":=rfl
 show wpAny _ _ (pyHashByItsType (.bool b)) Q E s
 have c:cRoomFor "hash" [.bool b]=pure ():=rfl
 unfold pyHashByItsType
 rw [c]
 refine wpAny_bind (wpAny_pure ?_)
 refine wpAny_bind (wpAny_specialOf t F.slot_bool_hash.lookup ?_)
 simp only [beq_builtin_none,Bool.false_eq_true,if_false]
 refine wpAny_bind (wpAny_specialOf t F.slot_bool_hash.lookup ?_)
 simp only [Option.isNone_some,Bool.false_eq_true,if_false]
 refine wpAny_bind (wpAny_callSpecialIfBoundUnlessNone?_slot t F.slot_bool_hash (wpAny_call_entry F.slot_bool_hash t F.entry_int_hash ?_ (F.args_int_hash_1 _)))
 unfold Builtin.«int.__hash__»
 cases b
 ·wp_walk
  exact ⟨.int 0 _,rfl,wpAny_pure h⟩
 ·wp_walk
  exact ⟨.int 1 _,rfl,wpAny_pure h⟩
noncomputable def qv (prog:Program) (w:World):PySem.KeyKind prog w Bool where
 is:=fun k v=>match v with
  | .bool b=>b==k
  | _=>false
 hash:=fun k=>if k then 1 else 0
 inj:=fun v a b ha hb=>by
  cases v <;> simp_all
 byValue:=fun k v h=>by
  cases v <;> simp_all [carriedByValue]
 pyHash:=fun {A E s k v Q} hv h=>by
  cases v <;> simp_all
  exact DB h
 eqBool:=fun {A E s a b u v Q} hu hv h=>by
  cases u <;> simp_all
  cases v <;> simp_all
  have e:decide (a=b)=(a==b):=by cases a <;> cases b <;> rfl
  rw [e] at h
  exact PySem.SeqAt.EqAt.bool_bool a b prog w E Q h
 «strs»:=fun k x t v h=>by simp at h
end
noncomputable abbrev DX:=List (List Bool×Addr×V)
noncomputable abbrev DU:=List (List Bool×Addr×Value)
noncomputable def qj (bs:List Bool):Int:=reduceHash (Builtin.Tuple.tupleHashOf (bs.map fun k=>if k then 1 else 0))
noncomputable abbrev DRel:DX->DU->Prop:=Paired fun p q=>p.1=q.1/\p.2.1=q.2.1/\RelV p.2.2 q.2.2
noncomputable def DS (a:Addr) (o:Obj) (xs:DX):Heap->Prop:=fun h=>h.get? a=some o/\xs.length<=sizeLine/\(a==sysModules)=false/\o.ExactDict/\∃ us:DU,DRel xs us/\
 ∃ es ep,o.data=.dict es ep/\es.toList=us.map (fun x=>⟨qj x.1,.ref x.2.1,x.2.2⟩)/\(us.map (·.1)).Nodup
noncomputable def DctO (a:Addr) (o:Obj) (xs:DX):HO:=.ext (DS a o xs)
theorem DctO.ok {w:World} {o:Obj} {xs:DX} (d:DS a o xs h):ObjOk P w H h a (DctO a o xs):=
 ⟨d,⟨o,d.1⟩,fun _ _ p st=>⟨st o p.1,p.2⟩⟩
noncomputable def gW (K:PySem.W.Frag) (H:Hp) (xs:DX):Prop:=∀ x∈xs,SqT K H x.2.1 (x.1.map V.bl)
noncomputable def ni (xs:DX) (k:List Bool):Option V:=(xs.find? fun x=>decide (x.1=k)).map (·.2.2)
theorem uS {P:Program} {w:World}:∀ {bs:List Bool} {us:List Value},Vals (bs.map V.bl) us->ItemsAre (qv P w) bs us
 | [],_,r=>by rw [List.map_nil] at r;cases r;exact .nil
 | b::bs,_,r=>by
  rw [List.map_cons] at r
  cases r with
  | cons h t=>
   obtain rfl:=(show _=Value.bool b from h)
   exact .cons (by simp [qv]) (uS t)
theorem DRel.find {k:List Bool}:∀ {xs:DX} {us:DU},DRel xs us->RelO (ni xs k) ((atKey us k).map (·.2))
 | _,_,.nil=>trivial
 | x::xs,u::us,.cons ⟨h1,h2,h3⟩ t=>by
  have ih:=DRel.find (k:=k) t
  unfold ni atKey at ih ⊢
  by_cases e:x.1=k
  ·have e':u.1=k:=h1 ▸ e
   simp only [List.find?_cons,e,e',decide_true,Option.map_some]
   exact h3
  ·have e' : ¬ u.1=k:=fun z=>e (h1.trans z)
   simp only [List.find?_cons,e,e',decide_false]
   exact ih
theorem DRel.isSome {k:List Bool} {xs:DX} {us:DU} (r:DRel xs us):(ni xs k).isSome=(atKey us k).isSome:=by
 have h:=r.find (k:=k)
 revert h
 cases ni xs k <;> cases atKey us k <;> intro h <;> first|rfl|exact h.elim
section
variable {X:Cx} {pins:List (Addr×Obj)} {σ:St} {H:Hp} {s:Shared} {a q:Addr} {o:Obj} {xs:DX} {k:List Bool} {v:V} {A:Around} {E:Value->Shared->Prop}
theorem nW (I:Inv X pins σ H s) (h:SqT X.K H q (k.map V.bl)):(tupleKind (qv X.prog X.w)).is s.heap k q:=by
 obtain ⟨its,rv,⟨o,h1,h2,n,h3⟩,_⟩:=I.tuple h
 exact ⟨o,its.toArray,n,h1,h2,h3,by simpa using uS rv⟩
theorem nF (I:Inv X pins σ H s) (e:H a=some (DctO a o xs)) (kk:gW X.K H xs):xs.length<=sizeLine/\(a==sysModules)=false/\∃ us:DU,DRel xs us/\s.heap.DictOfH (tupleKind (qv X.prog X.w)) a us:=by
 obtain ⟨⟨h1,z1,z2,h2,us,r,es,ep,h3,h4,h5⟩,_⟩:=(show ObjOk X.prog X.w H s.heap a (DctO a o xs) from I.hok a _ e)
 refine ⟨z1,z2,us,r,o,es,ep,h1,h2,h3,h4,fun u hu=>?_,h5⟩
 have all:∀ {l:DX} {m:DU},DRel l m->(∀ x∈l,SqT X.K H x.2.1 (x.1.map V.bl))->∀ u∈m,(tupleKind (qv X.prog X.w)).is s.heap u.1 u.2.1:=by
  intro l m q
  induction q with
  | nil=>intro _ u hu;exact nomatch hu
  | @cons x y ps qs hq t ih=>
   intro hl u hu
   rcases List.mem_cons.mp hu with z|hu
   ·subst z
    have:=nW I (hl x (List.mem_cons_self ..))
    rw [hq.1,hq.2.1] at this
    exact this
   ·exact ih (fun x hx=>hl x (List.mem_cons_of_mem _ hx)) u hu
 exact all r kk u hu
theorem DA {Q:Value->Shared->Prop} (hu:A.units+1<cLine) (I:Inv X pins σ H s) (e:H a=some (DctO a o xs)) (kk:gW X.K H xs) (hk:SqT X.K H q (k.map V.bl)) (hv:ni xs k=some v) (h:∀ w' s',Inv X pins σ H s'->RelV v w'->Q w' s') :
  wpAny (model X.prog X.w) A (getItem (.ref a) (.ref q)) Q E s:=by
 obtain ⟨z,hd,us,rel,dd⟩:=nF I e kk
 obtain ⟨w',hw,rw'⟩:=RelO.some_of (v:=v) (o:=(atKey us k).map (·.2)) (by rw [<- hv];exact rel.find)
 obtain ⟨p,hp,hp2⟩:=Option.map_eq_some_iff.mp hw
 refine wpAny_getItem_heap (tupleKind_room_in1 hu) (nW I hk) dd hp ?_
 rw [hp2]
 exact h w' _ (I.tok _) rw'
theorem Ea {Q:Value->Shared->Prop} (hu:A.units+1<cLine) (I:Inv X pins σ H s) (e:H a=some (DctO a o xs)) (kk:gW X.K H xs) (hk:SqT X.K H q (k.map V.bl)) (h:∀ s',Inv X pins σ H s'->Q (.bool (ni xs k).isSome) s') :
  wpAny (model X.prog X.w) A (compareOp .In (.ref q) (.ref a)) Q E s:=by
 obtain ⟨z,hd,us,rel,dd⟩:=nF I e kk
 refine wpAny_in_heap (tupleKind_room_in1 hu) (nW I hk) hd dd ?_
 rw [<- rel.isSome]
 exact h _ (I.tok _)
theorem yc {Q:Value->Shared->Prop} (hu:A.units+1<cLine) (I:Inv X pins σ H s) (e:H a=some (DctO a o xs)) (kk:gW X.K H xs) (hk:SqT X.K H q (k.map V.bl)) (h:∀ s',Inv X pins σ H s'->Q (.bool (!(ni xs k).isSome)) s') :
  wpAny (model X.prog X.w) A (compareOp .NotIn (.ref q) (.ref a)) Q E s:=by
 obtain ⟨z,hd,us,rel,dd⟩:=nF I e kk
 refine wpAny_notIn_heap (tupleKind_room_in1 hu) (nW I hk) hd dd ?_
 rw [<- rel.isSome]
 exact h _ (I.tok _)
noncomputable def Ae (xs:DX) (k:List Bool) (q:Addr) (v:V):DX:=if (ni xs k).isSome then xs.map (fun x=>if x.1=k then (x.1,x.2.1,v) else x) else xs++[(k,q,v)]
theorem DRel.snoc:∀ {xs:DX} {us:DU} {x:List Bool×Addr×V} {u:List Bool×Addr×Value},DRel xs us->(x.1=u.1/\x.2.1=u.2.1/\RelV x.2.2 u.2.2)->DRel (xs++[x]) (us++[u])
 | _,_,_,_,.nil,h=>.cons h .nil
 | _,_,_,_,.cons a t,h=>.cons a (DRel.snoc t h)
theorem DRel.put {xs:DX} {us:DU} (r:DRel xs us) (q:Addr) (rv:RelV v u):DRel (Ae xs k q v) (storedH us k q u):=by
 have e:(ni xs k).isSome=(atKey us k).isSome:=r.isSome
 unfold Ae storedH
 rw [e]
 by_cases z:(atKey us k).isSome=true
 ·rw [if_pos z,if_pos z]
  clear e z
  induction r with
  | nil=>exact .nil
  | @cons x y ps qs h t ih=>
   obtain ⟨h1,h2,h3⟩:=h
   rw [List.map_cons,List.map_cons]
   refine .cons ?_ ih
   unfold putAt
   by_cases z:x.1=k
   ·rw [if_pos z,if_pos (h1 ▸ z)];exact ⟨h1,h2,rv⟩
   ·rw [if_neg z,if_neg (fun y=>z (h1.trans y))];exact ⟨h1,h2,h3⟩
 ·rw [if_neg z,if_neg z];exact DRel.snoc r ⟨rfl,rfl,rv⟩
theorem Ag (xs:DX) (k:List Bool) (q:Addr) (v:V):(Ae xs k q v).length<=xs.length+1:=by
 unfold Ae
 split <;> simp
theorem C1 {Q:Unit->Shared->Prop} (hu:A.units+1<cLine) (I:Inv X pins σ H s) (e:H a=some (DctO a o xs)) (kk:gW X.K H xs) (hk:SqT X.K H q (k.map V.bl)) (hl:xs.length<sizeLine) (rv:RelV v u) (h:∀ o' s',Inv X pins σ (upd H a (DctO a o' (Ae xs k q v))) s'->Q () s') :
  wpAny (model X.prog X.w) A (setItem (.ref a) (.ref q) u) Q E s:=by
 obtain ⟨z,hd,us,rel,dd⟩:=nF I e kk
 have hz:us.length<=sizeLine:=by rw [<- Paired.length rel];exact z
 refine wpAny_setItem_heap (hsz:=hz) (tupleKind_room_in1 hu) (nW I hk) dd fun h' dd' hs=>?_
 obtain ⟨o',es,ep,h1,h2,h3,h4,_,h5⟩:=dd'
 refine h o' _ (I.write (x:=a) (e:=a) (by rw [e];trivial) (.inl rfl) (fun b y hb z=>(hs.2 b hb).trans z) ⟨o',h1⟩ (DctO.ok ⟨h1,?_,hd,h2,_,rel.put q rv,es,ep,h3,h4,h5⟩))
 have:=Ag xs k q v
 omega
end
end L2
namespace L2
open PySem PySem.Spec PyProof.Rows
theorem Inv.big0 (I:Inv X pins σ H s):(s.heap.objs.size==sysModules)=false:=by
 have h:mainGlobals<s.heap.objs.size:=(I.mod.glob.keeps I.bk).lt
 exact beq_eq_false_iff_ne.mpr fun e=>by
  rw [e] at h
  exact absurd h (by decide)
section
variable {X:Cx} {pos:Pos}
noncomputable def IX:TE:=fun _ H Q=>∀ p o,H p=none->Q (.ref p) (upd H p (DctO p o []))
theorem D2:PE X (.Dict [] [] pos) IX:=fun pins s σ H Q I h=>
 wpAny_Dict_empty ⟨.ref s.heap.objs.size,_,I.laid (t':=s.toks) (fun _ _ q=>Heap.get?_push_of_some _ q) (Nat.le_refl _) (DctO.ok ⟨Heap.get?_push_size _ rfl,Nat.zero_le _,I.big0,⟨rfl,rfl,rfl⟩,[],.nil,#[],0,rfl,rfl,List.nodup_nil⟩),rfl,h _ _ (I.hok.fresh (Nat.le_refl _))⟩
noncomputable def Ip (tk tv:TE) (K:PySem.W.Frag):TE:=fun σ H Q=>∀ p o,H p=none->tk σ (upd H p (DctO p o [])) fun x H1=>tv σ H1 fun y H2=>H2 p=some (DctO p o [])/\∃ q bs,x=.ref q/\SqT K H2 q (bs.map V.bl)/\∀ o',Q (.ref p) (upd H2 p (DctO p o' [(bs,q,y)]))
theorem Dl {k v:Expr} {tk tv:TE} (hu:X.A.units+1<cLine) (hk:PE X k tk) (hv:PE X v tv):PE X (.Dict [some k] [v] pos) (Ip tk tv X.K):=fun pins s σ H Q I h=>by
 have hn:=I.hok.fresh (Nat.le_refl s.heap.objs.size)
 have I1:Inv X pins σ (upd H s.heap.objs.size (DctO s.heap.objs.size { cls:=.type "dict",data:=.dict #[] } [])) { s with heap:=s.heap.push { cls:=.type "dict",data:=.dict #[] } }:=I.laid (t':=s.toks) (fun _ _ q=>Heap.get?_push_of_some _ q) (Nat.le_refl _) (DctO.ok ⟨Heap.get?_push_size _ rfl,Nat.zero_le _,I.big0,⟨rfl,rfl,rfl⟩,[],.nil,#[],0,rfl,rfl,List.nodup_nil⟩)
 refine wpAny_Dict_any rfl rfl (by simp) (by show 1<=15;decide) (pairTrees_cons_walk (thn (hk pins _ σ _ _ I1 (h _ _ hn)) fun u s1 ⟨x,H1,I2,rx,q1⟩=>thn (hv pins s1 σ H1 _ I2 q1) fun w s2 ⟨y,H2,I3,ry,hp,q,bs,ex,hq,q2⟩=>pairTrees_nil_walk ?_))
 subst ex
 cases rx
 obtain ⟨z,hd,us,rel,dd⟩:=nF I3 hp (fun _ hx=>nomatch hx)
 cases rel
 unfold storeAll
 rw [List.forIn_cons]
 refine wpAny_bind (wpAny_bind (wpAny_dictSet_heap (hsz:=Nat.zero_le _) (show X.A.units<cLine by omega) (nW I3 hq) dd fun h' dd' hs=>?_))
 refine wpAny_pure ?_
 show wpAny _ _ (forIn [] PUnit.unit _) _ _ _
 rw [List.forIn_nil]
 obtain ⟨o,es,ep,h1,h2,h3,h4,_,h5⟩:=dd'
 refine wpAny_pure ⟨.ref _,_,?_,rfl,q2 o⟩
 exact I3.write (x:=s.heap.objs.size) (e:=s.heap.objs.size) (by rw [hp];trivial) (.inl rfl) (fun b y hb z=>(hs.2 b hb).trans z) ⟨o,h1⟩ (DctO.ok ⟨h1,by show 1<=sizeLine;decide,hd,h2,_,.cons ⟨rfl,rfl,ry⟩ .nil,es,ep,h3,h4,h5⟩)
end
theorem A4:∀ a b c d:Bool,qj [a,b]=qj [c,d]->[a,b]=[c,d]:=by decide +kernel
theorem BC {α:Type} {f:α->Int} {c:Int}:∀ {l:List α},(l.map f).Nodup->(l.filter fun x=>f x==c).length<=1
 | [],_=>by simp
 | a::l,h=>by
  rw [List.map_cons,List.nodup_cons] at h
  by_cases e:f a=c
  ·have z:(l.filter fun x=>f x==c)=[]:=List.filter_eq_nil_iff.2 fun x hx q=>h.1 (List.mem_map.2 ⟨x,hx,by rw [e];exact eq_of_beq q⟩)
   rw [List.filter_cons_of_pos (by simp [e]),z];simp
  ·rw [List.filter_cons_of_neg (by simp [e])];exact BC h.2
noncomputable def IY (xs:DX):Prop:=∀ x∈xs,∃ a b,x.1=[a,b]
theorem qd:∀ {us:DU},(∀ u∈us,∃ a b,u.1=[a,b])->(us.map (·.1)).Nodup->(us.map fun u=>qj u.1).Nodup
 | [],_,_=>List.nodup_nil
 | u::us,h2,hn=>by
  rw [List.map_cons,List.nodup_cons] at hn ⊢
  refine ⟨fun hm=>hn.1 ?_,qd (fun x hx=>h2 x (List.mem_cons_of_mem _ hx)) hn.2⟩
  obtain ⟨y,hy,e⟩:=List.mem_map.1 hm
  obtain ⟨a,b,e1⟩:=h2 u (List.mem_cons_self ..)
  obtain ⟨c,d,e2⟩:=h2 y (List.mem_cons_of_mem _ hy)
  rw [e1,e2] at e
  exact List.mem_map.2 ⟨y,hy,by rw [e1,e2];exact A4 _ _ _ _ e⟩
theorem DRel.twos:∀ {xs:DX} {us:DU},DRel xs us->IY xs->∀ u∈us,∃ a b,u.1=[a,b]
 | _,_,.nil,_,u,hu=>nomatch hu
 | x::xs,y::us,.cons h t,h2,u,hu=>by
  rcases List.mem_cons.1 hu with rfl|hu
  ·obtain ⟨a,b,e⟩:=h2 x (List.mem_cons_self ..)
   exact ⟨a,b,h.1 ▸ e⟩
  ·exact DRel.twos t (fun z hz=>h2 z (List.mem_cons_of_mem _ hz)) u hu
section
variable {prog:Program} {w:World} {A:Around} {E:Value->Shared->Prop} {s:Shared}
theorem vJ {d o:Addr} {od oo:Obj} {es:Array DictEntry} {e0 ep:Nat} {id:String} {Q:Unit->Shared->Prop} (hne:(d==o)=false) (hos:(o==sysModules)=false) (hd:s.heap.get? d=some od) (hdd:od.data=.dict #[] e0) (ho:s.heap.get? o=some oo) (hdo:oo.data=.dict es ep)
 (hz:es.size<=sizeLine) (h0:0<es.size) (hr:∀ e∈es.toList,∃ q,e.key=.ref q/\s.TypeIs (.ref q) "tuple") (hf:∀ e∈es.toList,(es.filter (·.hash==e.hash)).size<=1)
 (h:Q () { s with heap:=s.heap.update d (Obj.mapDictKeys fun _=>es) }):wpAny (model prog w) A (Builtin.Dict.mergeDict id d o) Q E s:=by
 have few:(decide (es.size<=8) && es.all fun e=>(keyPart e.key).isSome)=false:=by
  have hx:es[0]∈es.toList:=by simp
  obtain ⟨q,e,_⟩:=hr _ hx
  have:(es.all fun e=>(keyPart e.key).isSome)=false:=by
   rw [Array.all_eq_false]
   exact ⟨0,h0,by rw [e];exact Bool.false_ne_true⟩
  rw [this,Bool.and_false]
 unfold Builtin.Dict.mergeDict Builtin.Dict.showsAll
 rw [hne,hos]
 simp only [Bool.false_eq_true,if_false]
 refine wpAny_bind (wpAny_pure (wpAny_bind (wpAny_dictEntries ho hdo ?_)))
 rw [few]
 simp only [Bool.not_false,if_true]
 refine wpAny_bind (wpAny_dictEntries hd hdd ?_)
 rw [if_pos (show (#[]:Array DictEntry).isEmpty=true from rfl)]
 unfold Builtin.Dict.entriesForEmpty
 refine wpAny_bind (wpAny_bind (wpAny_dictEntries ho hdo (wpAny_bind ?_)))
 rw [<- Array.forIn_toList]
 refine wpAny_forIn_list _ (fun cG _ z=>z=s/\∀ e∈cG,e∈es.toList) _ (fun e cG _ z hz'=>?_) (fun _ z hz'=>?_) _ _ ⟨rfl,fun e he=>he⟩
 ·obtain ⟨rfl,he⟩:=hz'
  obtain ⟨q,ek,ty⟩:=hr e (he e (List.mem_cons_self ..))
  unfold Builtin.Dict.quietEq
  rw [ek]
  refine wpAny_bind (wpAny_bind (wpAny_specialOf ty PySem.F.slot_tuple_eq.lookup (wpAny_pure ?_)))
  have no:(some (Value.builtin "tuple.__eq__")==some (Value.builtin "object.__eq__"))=false:=by decide
  rw [no]
  simp only [Bool.not_false,if_true]
  rw [if_neg (Nat.not_lt.2 (hf e (he e (List.mem_cons_self ..))))]
  exact wpAny_pure ⟨rfl,fun x hx=>he x (List.mem_cons_of_mem _ hx)⟩
 ·obtain ⟨rfl,_⟩:=hz'
  refine wpAny_pure ?_
  have ne:(!es.isEmpty)=true:=by simp;intro z;rw [z] at h0;exact absurd h0 (by simp)
  rw [if_pos ne]
  exact wpAny_bind (wpAny_updateDictKeysTo hd hdd (wpAny_pure h) (by omega))
end
theorem DRel.refs (I:Inv X pins σ H s):∀ {xs:DX} {us:DU},DRel xs us->gW X.K H xs->∀ u∈us,s.TypeIs (.ref u.2.1) "tuple"
 | _,_,.nil,_,u,hu=>nomatch hu
 | x::xs,y::us,.cons h t,kk,u,hu=>by
  rcases List.mem_cons.1 hu with rfl|hu
  ·obtain ⟨its,rv,⟨o,h1,h2,_⟩,_⟩:=I.tuple (kk x (List.mem_cons_self ..))
   exact ⟨o,h.2.1 ▸ h1,h2⟩
  ·exact DRel.refs I t (fun z hz=>kk z (List.mem_cons_of_mem _ hz)) u hu
theorem rM:kP X (.type "dict") (fun xs H Q=>∃ a o ys,xs=[.ref a]/\H a=some (DctO a o ys)/\gW X.K H ys/\IY ys/\ys≠[]/\∀ p o',H p=none->Q (.ref p) (upd H p (DctO p o' ys))):=by
 intro pins s σ H xs vs Q I r h
 obtain ⟨a,o0,ys,rfl,e,kk,tw,ne,q⟩:=h
 obtain ⟨u,rfl,rx⟩:=Aj r
 cases rx
 obtain ⟨z,hd,us,rel,dd⟩:=nF I e kk
 obtain ⟨o,es,ep,h1,h2,h3,h4,h5,h6⟩:=id dd
 have tn:∀ h:Heap,h.get? s.heap.objs.size=some { cls:=.type "dict",data:=.dict #[] }->Shared.TypeIs { s with heap:=h } (.ref s.heap.objs.size) "dict":=fun h e=>⟨_,e,rfl⟩
 have hlt:=Heap.lt_size h1
 have ho:(s.heap.push { cls:=.type "dict",data:=.dict #[] }).get? a=some o:=Heap.get?_push_of_some _ h1
 have hn:(s.heap.push { cls:=.type "dict",data:=.dict #[] }).get? s.heap.objs.size=some { cls:=.type "dict",data:=.dict #[] }:=Heap.get?_push_size _ rfl
 have ta:Shared.TypeIs { s with heap:=s.heap.push { cls:=.type "dict",data:=.dict #[] } } (.ref a) "dict":=⟨o,ho,h2.1⟩
 have ez:es.size=us.length:=by rw [<- Array.length_toList,h4,List.length_map]
 have uz:us.length=ys.length:=(Paired.length rel).symm
 refine callType_codes (Q₁:=fun v t=>v=.ref s.heap.objs.size/\t={ s with heap:=s.heap.push { cls:=.type "dict",data:=.dict #[] } }) PySem.F.kt_called_dict (PySem.F.kt_typeCall_dict_1 _) PySem.F.entry_dict_init (kt_code_dict_new _ ⟨rfl,rfl⟩) fun v t hv=>?_
 obtain ⟨rfl,rfl⟩:=hv
 refine ⟨tn _ hn,PySem.F.args_dict_init_2 _ _,?_⟩
 have fin:∀ h',h'=(s.heap.push { cls:=.type "dict",data:=.dict #[] }).update s.heap.objs.size (Obj.mapDictKeys fun _=>es)->EP X pins σ Q (.ref s.heap.objs.size) { s with heap:=h' }:=fun h' eh=>by
  subst eh
  refine ⟨.ref s.heap.objs.size,_,I.laid (t':=s.toks) (fun b y hb=>?_) (Nat.le_refl _) (DctO.ok ⟨Heap.get?_update_self _ hn rfl,z,I.big0,⟨rfl,rfl,rfl⟩,us,rel,es,_,rfl,h4,h6⟩),rfl,q _ _ (I.hok.fresh (Nat.le_refl _))⟩
  exact (Heap.get?_update_ne _ _ _ _ (Nat.ne_of_lt (Heap.lt_size hb))).trans (Heap.get?_push_of_some _ hb)
 have mg:∀ {id:String} {Q':Unit->Shared->Prop} {A':Around} {E':Value->Shared->Prop},Q' () { s with heap:=(s.heap.push { cls:=.type "dict",data:=.dict #[] }).update s.heap.objs.size (Obj.mapDictKeys fun _=>es) }->wpAny (model X.prog X.w) A' (Builtin.Dict.mergeDict id s.heap.objs.size a) Q' E' { s with heap:=s.heap.push { cls:=.type "dict",data:=.dict #[] } }:=fun hq=>
  vJ (beq_eq_false_iff_ne.2 (Nat.ne_of_gt hlt)) hd hn rfl ho h3 (by omega) (by rw [ez,uz];exact List.length_pos_iff.2 ne) (fun x hx=>by
   rw [h4] at hx
   obtain ⟨u,hu,rfl⟩:=List.mem_map.1 hx
   obtain ⟨ob,e1,e2⟩:=DRel.refs I rel kk u hu
   exact ⟨u.2.1,rfl,ob,Heap.get?_push_of_some _ e1,e2⟩) (fun x hx=>by
   have hh:=BC (c:=x.hash) (qd (rel.twos tw) h6)
   rw [<- Array.length_toList,Array.toList_filter,h4,List.filter_map,List.length_map]
   exact hh) hq
 unfold Builtin.«dict.__init__» Builtin.Dict.selfAndRest
 have sub:=PySem.F.kt_sub_dict
 wp_walk using wpAny_notOrdered_dict (tn _ hn),wpAny_specialOf ta PySem.F.slot_dict_iter.lookup,mg
 exact ⟨rfl,fin _ rfl⟩
section
variable {prog:Program} {w:World} {A:Around} {E:Value->Shared->Prop} {s:Shared} {d it:Addr} {o:Obj} {es:Array DictEntry} {ep:Nat}
theorem vX {Q:Value->Shared->Prop} (hs:(d==sysModules)=false) (ho:s.heap.get? d=some o) (hx:o.ExactDict) (h:Q (.ref s.heap.objs.size) { s with heap:=s.heap.push { cls:=.type "dict_items",data:=.fields #[.ref d] } }) :
  wpAny (model prog w) A (call (.builtin "dict.items") [.ref d]) Q E s:=by
 have t:s.TypeIs (.ref d) "dict":=⟨o,ho,hx.1⟩
 refine wpAny_call_entry PySem.F.slot_dict_items t PySem.F.entry_dict_items ?_ (PySem.F.args_dict_items_1 _)
 unfold Builtin.«dict.items» Builtin.Dict.noArgs Builtin.Dict.showsAll
 wp_walk using wpAny_notOrdered_dict t
 exact ⟨_,rfl,h⟩
theorem wE {v:Addr} {Q:Value->Shared->Prop} (hv:s.heap.get? v=some { cls:=.type "dict_items",data:=.fields #[.ref d] }) (ho:s.heap.get? d=some o) (hd:o.data=.dict es ep)
 (h:Q (.ref s.heap.objs.size) { s with heap:=s.heap.push { cls:=.type "dict_itemiterator",data:=.fields #[.none,.bool false,.ref d,.int 0 0,.int es.size 0,.int ep 0,.none,.none] } }) :
  wpAny (model prog w) A (pyIter (.ref v)) Q E s:=by
 have t:s.TypeIs (.ref v) "dict_items":=⟨_,hv,rfl⟩
 refine wpAny_pyIter_slot t PySem.F.slot_dict_items_iter (wpAny_call_entry PySem.F.slot_dict_items_iter t PySem.F.entry_dict_items_iter ?_ (PySem.F.args_dict_items_iter_1 _))
 unfold Builtin.«dict_items.__iter__» Builtin.Dict_items.dictOf Builtin.Dict_items.newIterator
 wp_walk using wpAny_field hv rfl (x:=.ref d) rfl,wpAny_dictEntries ho hd,wpAny_dictEpoch ho hd
 have own:Builtin.Dict_items.ownsTuple "dict_itemiterator"=true:=by decide
 refine ⟨_,rfl,"dict_itemiterator",_,⟨_,Heap.get?_push_size _ rfl,rfl⟩,PySem.F.slot_dict_itemiterator_next.lookup,?_⟩
 simpa [own,rawInt,Builtin.Dict_items.ownedTupleFields] using h
noncomputable def Kf (it d:Addr) (n ep i:Nat) (h:Heap):Prop:=∃ x y,IsItemIter h it d i n ep x y
theorem wL {Q:Option Value->Shared->Prop} {x y:Value} (hi:IsItemIter s.heap it d i es.size ep x y) (hne:d≠it) (ho:s.heap.get? d=some o) (hd:o.data=.dict es ep) (hl:i<es.size)
 (h:∀ h',IsItemIterOut h' it d (i+1) es.size ep es[i].key es[i].val s.heap.objs.size->h'.get? s.heap.objs.size=some { cls:=.type "tuple",data:=.seq #[es[i].key,es[i].val] }->(∀ b ob,b≠it->s.heap.get? b=some ob->h'.get? b=some ob)->Q (some (.ref s.heap.objs.size)) { s with heap:=h' }) :
  wpAny (model prog w) A (pyNext (.ref it)) Q E s:=by
 have t:s.TypeIs (.ref it) "dict_itemiterator":=⟨_,hi,rfl⟩
 have own:Builtin.Dict_items.ownsTuple "dict_itemiterator"=true:=by decide
 unfold pyNext
 refine wpAny_bind (wpAny_attempt (wpAny_callSpecial?_slot (name:=Str.ofString "__next__") t PySem.F.slot_dict_itemiterator_next (wpAny_call_entry PySem.F.slot_dict_itemiterator_next t PySem.F.entry_dict_itemiterator_next ?_ (PySem.F.args_dict_itemiterator_next_1 _))))
 unfold Builtin.«dict_itemiterator.__next__»
 wp_walk using wpAny_typeNameOfWhole_itemiter t,wpAny_fieldsOf hi rfl,wpAny_dictEntries ho hd,wpAny_dictEpoch ho hd
 have i0:(if (i:Int)<0 then none else es[(i:Int).toNat]?)=some es[i]:=by
  rw [if_neg (by omega),Int.toNat_natCast,Array.getElem?_eq_getElem hl]
 rw [i0]
 have e0:((i+1:Nat):Int)=(i:Int)+1:=by omega
 refine wpAny_bind (wpAny_bind (wpAny_typeNameOfWhole_itemiter t (wpAny_pure (wpAny_bind (wpAny_isOneOf_itemiter t ?_)))))
 show wpAny _ _ (setField (.ref it) 3 (rawInt ((i:Int)+1))>>=_) _ _ s
 refine wpAny_bind (wpAny_setField_rec hi (by simp) fun h1 e1 s1=>wpAny_bind (wpAny_holding ?_))
 have e1:IsItemIter h1 it d (i+1) es.size ep x y:=by unfold IsItemIter;rw [e0];simpa [rawInt] using e1
 have t1:Shared.TypeIs { s with heap:=h1 } (.ref it) "dict_itemiterator":=⟨_,e1,rfl⟩
 refine wpAny_bind (wpAny_isOneOf_itemiter t1 (wpAny_bind (wpAny_isOneOf_itemiter t1 ?_)))
 show wpAny _ _ (Builtin.Dict_items.pairFromOwner (.ref it) 6 es[i].key es[i].val) _ _ { s with heap:=h1 }
 unfold Builtin.Dict_items.pairFromOwner
 refine wpAny_bind (wpAny_newTuple ?_)
 have e2:IsItemIter (h1.push { cls:=.type "tuple",data:=.seq #[es[i].key,es[i].val] }) it d (i+1) es.size ep x y:=Heap.get?_push_of_some _ e1
 have lt:it<s.heap.objs.size:=Heap.lt_size hi
 have z1:h1.objs.size=s.heap.objs.size:=s1.1
 have g2:(h1.push { cls:=.type "tuple",data:=.seq #[es[i].key,es[i].val] }).get? s.heap.objs.size=some { cls:=.type "tuple",data:=.seq #[es[i].key,es[i].val] }:=by rw [<- z1];exact Heap.get?_push_size _ rfl
 have k2:∀ b ob,b≠it->s.heap.get? b=some ob->(h1.push { cls:=.type "tuple",data:=.seq #[es[i].key,es[i].val] }).get? b=some ob:=fun b ob n q=>Heap.get?_push_of_some _ (s1.extBut b ob n q)
 rw [show ({ s with heap:=h1 }:Shared).heap.objs.size=s.heap.objs.size from z1]
 generalize h1.push { cls:=.type "tuple",data:=.seq #[es[i].key,es[i].val] }=h2 at e2 g2 k2 ⊢
 clear s1 e1 t1 z1 hi t
 unfold Builtin.Dict_items.ownedTupleIsFree
 have gt:=Nat.ne_of_gt lt
 refine wpAny_bind (wpAny_bind (wpAny_field e2 rfl (x:=.none) rfl (wpAny_pure ?_)))
 rw [if_pos rfl]
 refine wpAny_bind (wpAny_field e2 rfl (x:=x) rfl (wpAny_bind (wpAny_field e2 rfl (x:=y) rfl (wpAny_bind (wpAny_setField_rec e2 (by simp) fun h3 (e3:IsItemIter h3 it d (i+1) es.size ep es[i].key y) s3=>?_)))))
 refine wpAny_bind (wpAny_setField_rec e3 (by simp) fun h4 (e4:IsItemIter h4 it d (i+1) es.size ep es[i].key es[i].val) s4=>wpAny_bind (wpAny_setField_rec e4 (by simp) fun h5 (e5:IsItemIterOut h5 it d (i+1) es.size ep es[i].key es[i].val s.heap.objs.size) s5=>?_))
 refine wpAny_bind (wpAny_setField_rec e5 (by simp) fun h6 (e6:IsItemIterOut h6 it d (i+1) es.size ep es[i].key es[i].val s.heap.objs.size) s6=>wpAny_bind (wpAny_letGo (wpAny_pure (wpAny_pure ⟨_,rfl,wpAny_pure (h h6 e6 ?_ ?_)⟩))))
 ·exact s6.extBut _ _ gt (s5.extBut _ _ gt (s4.extBut _ _ gt (s3.extBut _ _ gt g2)))
 ·exact fun b ob n q=>s6.extBut b ob n (s5.extBut b ob n (s4.extBut b ob n (s3.extBut b ob n (k2 b ob n q))))
theorem yN {Q:Option Value->Shared->Prop} {x y:Value} (hh:A.handled=none) (hi:IsItemIter s.heap it d i es.size ep x y) (hne:d≠it) (ho:s.heap.get? d=some o) (hd:o.data=.dict es ep) (hl:es.size<=i)
 (h:∀ h',(∀ b ob,b≠it->s.heap.get? b=some ob->h'.get? b=some ob)->Q none { s with heap:=h' }):wpAny (model prog w) A (pyNext (.ref it)) Q E s:=by
 have t:s.TypeIs (.ref it) "dict_itemiterator":=⟨_,hi,rfl⟩
 unfold pyNext
 refine wpAny_bind (wpAny_attempt (wpAny_callSpecial?_slot (name:=Str.ofString "__next__") t PySem.F.slot_dict_itemiterator_next (wpAny_call_entry PySem.F.slot_dict_itemiterator_next t PySem.F.entry_dict_itemiterator_next ?_ (PySem.F.args_dict_itemiterator_next_1 _))))
 unfold Builtin.«dict_itemiterator.__next__»
 wp_walk using wpAny_typeNameOfWhole_itemiter t,wpAny_fieldsOf hi rfl,wpAny_dictEntries ho hd,wpAny_dictEpoch ho hd
 have i0:(if (i:Int)<0 then none else es[(i:Int).toNat]?)=none:=by
  rw [if_neg (by omega),Int.toNat_natCast,Array.getElem?_eq_none hl]
 rw [i0]
 refine wpAny_bind (wpAny_bind (wpAny_typeNameOfWhole_itemiter t (wpAny_pure ?_)))
 show wpAny _ _ (setField (.ref it) 2 .none>>=_) _ _ s
 refine wpAny_bind (wpAny_setField_rec hi (by simp) fun h1 e1 s1=>?_)
 have sub:=isSubtype_stop
 have hh1:A.in1.handled=none:=hh
 clear i0 e1 t hi
 simp only [newExc,raiseNew]
 wp_walk
 exact h _ fun b ob n q=>Heap.get?_push_of_some _ (Heap.get?_push_of_some _ (s1.extBut b ob n q))
end
theorem zT {ob o:Obj} (hb:b<h.objs.size) (q:(h.push ob).get? b=some o):h.get? b=some o:=by
 unfold Heap.get? Heap.push at *
 simpa [Array.getElem?_push,Nat.ne_of_lt hb] using q
noncomputable def Itd (a:Addr) (o:Obj) (xs:DX):It:=
 ⟨fun i H=>H a=some (DctO a o xs)/\i<xs.length,fun i H x H'=>∃ p y,x=.ref p/\H p=none/\xs[i]?=some y/\H'=upd H p (.tup [.ref y.2.1,y.2.2]),fun i H=>H a=some (DctO a o xs)/\xs.length<=i⟩
theorem DRel.get:∀ {xs:DX} {us:DU} {i:Nat} {x:List Bool×Addr×V},DRel xs us->xs[i]?=some x->∃ u,us[i]?=some u/\x.2.1=u.2.1/\RelV x.2.2 u.2.2
 | _,_,i,_,.nil,e=>by simp at e
 | _,_,0,_,.cons h _,e=>by simp at e;subst e;exact ⟨_,rfl,h.2⟩
 | _,_,i+1,_,.cons _ t,e=>DRel.get (i:=i) t (by simpa using e)
theorem mC {o:Obj} {xs:DX} (I:Inv X pins σ H s) (e:H a=some (DctO a o xs)):DS a o xs s.heap:=
 (show ObjOk X.prog X.w H s.heap a (DctO a o xs) from I.hok a _ e).1
theorem vM {w:World} {K:PySem.W.Frag} {tp:Pos} (a it:Addr) (o:Obj) (xs:DX) {es:Array DictEntry} {ep:Nat} (hd:o.data=.dict es ep) (hz:es.size=xs.length) :
  Turn P w K (.Tuple elts kt tp) (Itd a o xs) [it] it (fun i h=>Kf it a es.size ep i h) where
 mem:=by simp
 obj:=fun i h st b hb=>by
  obtain ⟨x,y,q⟩:=st
  obtain rfl:b=it:=by simpa using hb
  exact ⟨_,q,fun v z=>by cases z⟩
 keep:=fun i h h' ⟨x,y,q⟩ k=>⟨x,y,k it (by simp) _ q⟩
 item:=by
  intro X hP hw hK hc i pins s σ H E I hf st hg
  subst hP hw hK
  obtain ⟨x,y,hi⟩:=st
  obtain ⟨e,hl⟩:=hg
  obtain ⟨h1,z1,z2,h2,us,r,es',ep',h3,h4,h5⟩:=mC I e
  rw [hd] at h3
  cases h3
  obtain ⟨f0,f1,f2,f3,f4,f5⟩:=hf it (by simp)
  have ne:a≠it:=fun z=>by rw [z,f0] at e;cases e
  have hlt:i<es.size:=by omega
  obtain ⟨u,hu,k1,k2⟩:=r.get (List.getElem?_eq_getElem hl)
  have ee:es[i]=⟨qj u.1,.ref u.2.1,u.2.2⟩:=by
   have q:es.toList[i]?=some es[i]:=by simp [hlt]
   rw [h4,List.getElem?_map,hu] at q
   exact (Option.some.inj q).symm
  have hp:H s.heap.objs.size=none:=I.hok.fresh (Nat.le_refl _)
  have npt:s.heap.objs.size≠it:=Nat.ne_of_gt (Heap.lt_size hi)
  refine wL hi ne h1 hd hlt fun h6 o6 g6 k6=>⟨_,rfl,wpAny_letOwnedTupleGo_items o6 fun h7 o7 s7=>?_⟩
  have Ia:Inv X pins σ (upd H s.heap.objs.size (.tup [.ref xs[i].2.1,xs[i].2.2])) { s with heap:=s.heap.push { cls:=.type "tuple",data:=.seq #[es[i].key,es[i].val] } }:=by
   refine I.laid (t':=s.toks) (fun b ob q=>Heap.get?_push_of_some _ q) (Nat.le_refl _) ⟨by show 2<=sizeLine;decide,[es[i].key,es[i].val],.cons ?_ (.cons ?_ .nil),IsTup.new _ _⟩
   ·rw [ee,k1];rfl
   ·rw [ee];exact k2
  have Ib:Inv X pins σ (upd H s.heap.objs.size (.tup [.ref xs[i].2.1,xs[i].2.2])) { s with heap:=h7 }:=by
   refine Inv.turned (s:={ s with heap:=s.heap.push { cls:=.type "tuple",data:=.seq #[es[i].key,es[i].val] } }) (h':=h7) (t':=s.toks) (it:=it) Ia (fun b ob n q=>?_) (by rw [aK (Ne.symm npt)];exact f0) f1 f3 f4 f5
   refine (s7.2 b n).trans ?_
   by_cases z:b=s.heap.objs.size
   ·subst z
    have q':=Heap.get?_push_size s.heap (o:={ cls:=.type "tuple",data:=.seq #[es[i].key,es[i].val] }) rfl
    exact (g6.trans q'.symm).trans q
   ·refine k6 b ob n ?_
    have q:(s.heap.push { cls:=.type "tuple",data:=.seq #[es[i].key,es[i].val] }).get? b=some ob:=q
    rcases Nat.lt_or_ge b s.heap.objs.size with hb|hb
    ·exact zT hb q
    ·have hlt:=Heap.lt_size q
     rw [Heap.size_push] at hlt
     exact absurd (Nat.le_antisymm (Nat.le_of_lt_succ hlt) hb) z
  exact ⟨.ref s.heap.objs.size,_,Ib,rfl,⟨_,_,rfl,hp,List.getElem?_eq_getElem hl,rfl⟩,⟨_,_,o7⟩,fun b hb=>by
   obtain rfl:b=it:=by simpa using hb
   rw [aK (Ne.symm npt)];exact f0⟩
 done:=by
  intro X hP hw hK hc i pins s σ H E I hf st hg
  subst hP hw hK
  obtain ⟨x,y,hi⟩:=st
  obtain ⟨e,hl⟩:=hg
  obtain ⟨h1,_⟩:=mC I e
  obtain ⟨f0,f1,f2,f3,f4,f5⟩:=hf it (by simp)
  have ne:a≠it:=fun z=>by rw [z,f0] at e;cases e
  exact yN (I.ok.hd hc) hi ne h1 hd (by omega) fun h' k=>⟨rfl,I.turned (t':=s.toks) k f0 f1 f3 f4 f5⟩
 self:=fun A i s Q E ⟨x,y,q⟩ h=>PySem.W.kcp_self q h
theorem AZ {o:Expr} {t:TE} {tp ap cp:Pos} (ho:PE X o t) (hbase:attributeBase o "items" X.env (eval o X.env)=eval o X.env:=by rfl) (hline:(ap.endLine==cp.line)=true:=by rfl) :
  PI X (.Tuple elts kt tp) (.Call (.Attribute o "items" ap) [] [] cp) (fun σ H R=>t σ H fun x H1=>∃ a ob xs,x=.ref a/\H1 a=some (DctO a ob xs)/\R (Itd a ob xs) H1):=fun pins s σ H R I h=>by
 refine wpAny_Call_method0_late hbase hline (thn (ho pins s σ H _ I h) fun v s1 ⟨x,H1,I1,r1,a,ob,xs,ex,e,hR⟩=>?_)
 subst ex
 cases r1
 obtain ⟨h1,z1,z2,h2,us,r,es,ep,h3,h4,h5⟩:=mC I1 e
 have hz:es.size=xs.length:=by rw [<- Array.length_toList,h4,List.length_map];exact (Paired.length r).symm
 refine ⟨"dict","dict.items",PySem.F.plainAttrs_dict,PySem.F.slot_dict_items,PySem.F.type_dict_items,⟨ob,h1,h2.1⟩,fun b eb=>?_,Calls.callWith_builtin rfl (PySem.evalArgs_none (vX z2 h1 h2 ?_))⟩
 ·cases eb;exact ⟨ob,h1,h2.2.1⟩
 have I2:Inv X pins σ H1 { s1 with heap:=s1.heap.push { cls:=.type "dict_items",data:=.fields #[.ref a] } }:=I1.kept (t':=s1.toks) fun b q e=>Heap.get?_push_of_some _ e
 refine wE (Heap.get?_push_size _ rfl) (Heap.get?_push_of_some _ h1) h3 ?_
 refine ⟨_,[_],_,_,H1,rfl,I2.kept (t':=s1.toks) fun b q e=>Heap.get?_push_of_some _ e,vM a _ ob xs h3 hz,⟨_,_,Heap.get?_push_size _ rfl⟩,fun b hb=>?_,hR⟩
 obtain rfl:=List.mem_singleton.1 hb
 exact I2.fpOk (Nat.le_refl _) (I2.hok.fresh (Nat.le_refl _))
end L2
set_option maxRecDepth 100000
set_option maxHeartbeats 4000000
namespace L2
open PySem PySem.Spec PyProof.Rows
inductive D where
  | non | bl (b : Bool) | int (i : Int) | str (x : List Nat) | tup (xs : List D) | lst (fz : Bool) (xs : List D) | exc (C : Addr)
  /-- a dict whose keys are tuples of two truths, by their numbers, in the order of their coming -/
  | dct (ks : List Nat) (xs : List D)
noncomputable def code (a b:Bool):Nat:=(if a then 1 else 0)+(if b then 2 else 0)
inductive KeysAt (K:PySem.W.Frag) (G:Hp):DX->List Nat->Prop
 | nil:KeysAt K G [] []
 | cons {q:Addr} {v:V} {a b:Bool} {xs:DX} {ks:List Nat} (h:SqT K G q [.bl a,.bl b]) (t:KeysAt K G xs ks):KeysAt K G (([a,b],q,v)::xs) (code a b::ks)
noncomputable def EU (a C:Addr):Heap->Prop:=fun h=>∃ ob,h.get? a=some ob/\ob.cls=.ref C
mutual
inductive Rep (K:PySem.W.Frag) (G:Hp):V->D->Prop
 | non:Rep K G .non .non
 | bl (b:Bool):Rep K G (.bl b) (.bl b)
 | int (i:Int):Rep K G (.int i) (.int i)
 | str (x:Str) (h:x.length<=sizeLine):Rep K G (.str x) (.str x.cps.toList)
 | tup {a:Addr} {vs:List V} {ds:List D} (h:SqT K G a vs) (r:Reps K G vs ds):Rep K G (.ref a) (.tup ds)
 | lst {a:Addr} {vs:List V} {ds:List D} (h:G a=some (.lst vs)) (r:Reps K G vs ds):Rep K G (.ref a) (.lst false ds)
 | fls {a:Addr} {vs:List V} {ds:List D} (h:SqL K G a vs) (r:Reps K G vs ds):Rep K G (.ref a) (.lst true ds)
 | exc {a C:Addr} (h:G a=some (.ext (EU a C))):Rep K G (.ref a) (.exc C)
 | dct {a:Addr} {o:Obj} {xs:DX} {ks:List Nat} {ds:List D} (h:G a=some (DctO a o xs)) (k:KeysAt K G xs ks) (r:Reps K G (xs.map (·.2.2)) ds):Rep K G (.ref a) (.dct ks ds)
inductive Reps (K:PySem.W.Frag) (G:Hp):List V->List D->Prop
 | nil:Reps K G [] []
 | cons {v:V} {d:D} {vs:List V} {ds:List D} (r:Rep K G v d) (t:Reps K G vs ds):Reps K G (v::vs) (d::ds)
end
section
variable {K:PySem.W.Frag} {G G' H H' G1 H1 G2 H2:Hp}
theorem SqT.mono (e:Same G G') (h:SqT K G a xs):SqT K G' a xs:=by
 rcases h with (h|⟨o,h⟩)|h
 ·exact .inl (.inl (e _ _ h))
 ·exact .inl (.inr ⟨o,e _ _ h⟩)
 ·exact .inr h
theorem KeysAt.mono (e:Same G G'):∀ {xs:DX} {ks:List Nat},KeysAt K G xs ks->KeysAt K G' xs ks
 | _,_,.nil=>.nil
 | _,_,.cons h t=>.cons (h.mono e) (t.mono e)
theorem SqL.mono (e:Same G G') (h:SqL K G a xs):SqL K G' a xs:=e.seq h
mutual
theorem Rep.mono (e:Same G G'):∀ {v:V} {d:D},Rep K G v d->Rep K G' v d
 | _,_,.non=>.non
 | _,_,.bl b=>.bl b
 | _,_,.int i=>.int i
 | _,_,.str x h=>.str x h
 | _,_,.tup h r=>.tup (h.mono e) (Reps.mono e r)
 | _,_,.lst h r=>.lst (e _ _ h) (Reps.mono e r)
 | _,_,.fls h r=>.fls (h.mono e) (Reps.mono e r)
 | _,_,.exc h=>.exc (e _ _ h)
 | _,_,.dct h k r=>.dct (e _ _ h) (k.mono e) (Reps.mono e r)
theorem Reps.mono (e:Same G G'):∀ {vs:List V} {ds:List D},Reps K G vs ds->Reps K G' vs ds
 | _,_,.nil=>.nil
 | _,_,.cons r t=>.cons (Rep.mono e r) (Reps.mono e t)
end
section inv
variable {v:V}
theorem Rep.int_inv {i:Int} (r:Rep K G v (.int i)):v=.int i:=by cases r;rfl
theorem Rep.bl_inv {b:Bool} (r:Rep K G v (.bl b)):v=.bl b:=by cases r;rfl
theorem Rep.non_inv (r:Rep K G v .non):v=.non:=by cases r;rfl
theorem Rep.str_inv {x:List Nat} (r:Rep K G v (.str x)):∃ y:Str,v=.str y/\y.cps.toList=x/\y.length<=sizeLine:=by
 generalize e:D.str x=d at r
 cases r with
 | str y h=>cases e;exact ⟨y,rfl,rfl,h⟩
 | _=>cases e
theorem Rep.tup_inv {ds:List D} (r:Rep K G v (.tup ds)):∃ a vs,v=.ref a/\SqT K G a vs/\Reps K G vs ds:=by
 cases r with
 | tup h t=>exact ⟨_,_,rfl,h,t⟩
theorem Rep.lst_inv {ds:List D} (r:Rep K G v (.lst false ds)):∃ a vs,v=.ref a/\G a=some (.lst vs)/\Reps K G vs ds:=by
 cases r with
 | lst h t=>exact ⟨_,_,rfl,h,t⟩
theorem Rep.seq_inv {f:Bool} {ds:List D} (r:Rep K G v (.lst f ds)):∃ a vs,v=.ref a/\SqL K G a vs/\Reps K G vs ds:=by
 cases r with
 | lst h t=>exact ⟨_,_,rfl,.of h,t⟩
 | fls h t=>exact ⟨_,_,rfl,h,t⟩
theorem Rep.strL {x:List Nat} {y:Str} (e:y.cps.toList=x) (h:x.length<=sizeLine):Rep K G (.str y) (.str x):=by
 subst e;exact .str y (by simpa [Str.length] using h)
end inv
theorem Reps.length:∀ {vs:List V} {ds:List D},Reps K G vs ds->vs.length=ds.length
 | _,_,.nil=>rfl
 | _,_,.cons _ t=>by simp [Reps.length t]
theorem Reps.get:∀ {vs:List V} {ds:List D} {i:Nat} {d:D},Reps K G vs ds->ds[i]?=some d->∃ v,vs[i]?=some v/\Rep K G v d
 | _,_,_,_,.nil,e=>by simp at e
 | _,_,0,_,.cons r _,e=>by simp at e;subst e;exact ⟨_,rfl,r⟩
 | _,_,i+1,d,.cons _ t,e=>by
  obtain ⟨v,h1,h2⟩:=Reps.get (i:=i) (d:=d) t (by simpa using e)
  exact ⟨v,by simpa using h1,h2⟩
theorem Reps.append:∀ {vs ws:List V} {ds es:List D},Reps K G vs ds->Reps K G ws es->Reps K G (vs++ws) (ds++es)
 | _,_,_,_,.nil,s=>s
 | _,_,_,_,.cons r t,s=>.cons r (Reps.append t s)
theorem Reps.take:∀ {vs:List V} {ds:List D} (n:Nat),Reps K G vs ds->Reps K G (vs.take n) (ds.take n)
 | _,_,0,_=>by simpa using Reps.nil
 | _,_,_+1,.nil=>.nil
 | _,_,n+1,.cons r t=>.cons r (Reps.take n t)
theorem Reps.drop:∀ {vs:List V} {ds:List D} (n:Nat),Reps K G vs ds->Reps K G (vs.drop n) (ds.drop n)
 | _,_,0,r=>r
 | _,_,_+1,.nil=>.nil
 | _,_,n+1,.cons _ t=>Reps.drop n t
theorem Reps.set {d:D} (r:Rep K G v d):∀ {vs:List V} {ds:List D} (i:Nat),Reps K G vs ds->Reps K G (vs.set i v) (ds.set i d)
 | _,_,_,.nil=>.nil
 | _,_,0,.cons _ t=>.cons r t
 | _,_,i+1,.cons q t=>.cons q (Reps.set r i t)
theorem Reps.rep {ds:List D} (r:Reps K G vs ds):∀ n:Nat,Reps K G (List.replicate n vs).flatten (List.replicate n ds).flatten
 | 0=>.nil
 | n+1=>by
  simp only [List.replicate_succ,List.flatten_cons]
  exact Reps.append r (Reps.rep r n)
structure Up (G H G' H':Hp):Prop where
 sub:Same G' H'
 gg:Same G G'
 hh:Same H H'
 fr:∀ a o,G' a=some o->G a=some o\/H a=none
theorem Up.refl (s:Same G H):Up G H G H:=⟨s,.refl _,.refl _,fun _ _ h=>.inl h⟩
theorem Up.trans (a:Up G H G1 H1) (b:Up G1 H1 G2 H2):Up G H G2 H2:=⟨b.sub,a.gg.trans b.gg,a.hh.trans b.hh,fun c o h=>by
 rcases b.fr c o h with h|h
 ·exact a.fr c o h
 ·exact .inr (a.hh.free h)⟩
theorem Same.both {p:Addr} {o:HO} (s:Same G H):Same (upd G p o) (upd H p o):=fun a u h=>by
 unfold L2.upd at h ⊢
 split
 ·rename_i e;rw [if_pos e] at h;exact h
 ·rename_i e;rw [if_neg e] at h;exact s a u h
theorem Same.into {p:Addr} {o:HO} (h:H p=none):Same H (upd H p o):=fun a u e=>by
 rw [aK (aF e h)];exact e
theorem Up.new {p:Addr} {o:HO} (s:Same G H) (hp:H p=none):Up G H (upd G p o) (upd H p o):=
 ⟨s.both,.into (s.free hp),.into hp,fun a u h=>by
  by_cases e:a=p
  ·subst e;exact .inr hp
  ·rw [aK e] at h;exact .inl h⟩
end
inductive R (α:Type) where
 | ok (a:α)|ex (C:Addr)|no
noncomputable def R.bind {α β:Type}:R α->(α->R β)->R β
 | .ok a,f=>f a
 | .ex C,_=>.ex C
 | .no,_=>.no
noncomputable instance:Monad R where
 pure:=.ok
 bind:=R.bind
section
variable {α β:Type}
@[simp] theorem R.ok_bind (a:α) (f:α->R β):(R.ok a>>=f)=f a:=rfl
@[simp] theorem R.ex_bind (C:Addr) (f:α->R β):((R.ex C:R α)>>=f)=.ex C:=rfl
noncomputable def R.post (m:R α) (P:α->Prop) (E:Addr->Prop):Prop:=match m with
 | .ok a=>P a
 | .ex C=>E C
 | .no=>False
theorem R.post.mono {m:R α} {P P':α->Prop} {E E':Addr->Prop} (h:m.post P E) (hp:∀ a,P a->P' a) (he:∀ C,E C->E' C):m.post P' E':=by
 cases m with
 | ok a=>exact hp a h
 | ex C=>exact he C h
 | no=>exact h
noncomputable def ofO:Option α->R α
 | some a=>.ok a
 | none=>.no
@[simp] theorem cu (a:α):ofO (some a)=R.ok a:=rfl
theorem ofO.ok {o:Option α} {P:α->Prop} {E:Addr->Prop} (h:(ofO o).post P E):∃ a,o=some a/\P a:=by
 cases o with
 | none=>exact h.elim
 | some a=>exact ⟨a,rfl,h⟩
end
inductive Fd where
 | val (d:D)|own (ds:List D)
inductive Sl where
  | val (d : D)
  /-- a list that no other name, and no datum, holds -/
  | own (ds : List D)
  /-- an instance of the class at C, at p, that no other name, and no datum, holds; m: it may be changed -/
  | obj (m : Bool) (C p : Addr) (fs : List (Nat × Fd))
noncomputable abbrev Ev:=List (Option Sl)
noncomputable def rdV (ρ:Ev) (i:Nat):R D:=match ρ[i]? with
 | some (some (.val d))=>.ok d
 | _=>.no
noncomputable abbrev rvz(i:Nat):Ev->R D:=fun ρ=>rdV ρ i
noncomputable abbrev ciz(n:Int):Ev->R D:=fun _=>R.ok (D.int n)
noncomputable abbrev nlz:Ev->R (List D):=fun _=>R.ok []
noncomputable abbrev csz(x:List Nat):Ev->R D:=fun _=>R.ok (D.str x)
noncomputable def fnames:List Str:=["states","taken_back","width","screen","last_notes","tasks","numbers_given"]
noncomputable def Fq (k:Nat):Str:=fnames.getD k ""
noncomputable abbrev kj:=Addr->Option (Nat×Nat)
noncomputable def FdAt (K:PySem.W.Frag) (H₀ G H:Hp) (ow:kj) (i:Nat) (m:Bool) (k:Nat):Fd->V->Prop
 | .val d,v=>Rep K G v d
 | .own ds,v=>∃ l ws,v=.ref l/\H l=some (.lst ws)/\G l=none/\(m=true->H₀ l=none)/\Reps K G ws ds/\ow l=some (i,k+1)
inductive FdsAt (K:PySem.W.Frag) (H₀ G H:Hp) (ow:kj) (i:Nat) (m:Bool):List (Nat×Fd)->List (Str×V)->Prop
 | nil:FdsAt K H₀ G H ow i m [] []
 | cons {k:Nat} {fd:Fd} {v:V} {fs:List (Nat×Fd)} {vs:List (Str×V)} (h:k<fnames.length) (nk:fs.lookup k=none) (r:FdAt K H₀ G H ow i m k fd v) (t:FdsAt K H₀ G H ow i m fs vs):FdsAt K H₀ G H ow i m ((k,fd)::fs) ((Fq k,v)::vs)
noncomputable def InsAt (K:PySem.W.Frag) (H₀ G H:Hp) (ow:kj) (i:Nat) (m:Bool) (C p:Addr) (fs:List (Nat×Fd)):Prop:=
 ∃ dx vs,H p=some (.ins C dx vs)/\H dx=some (.own p)/\G p=none/\G dx=none/\(m=true->H₀ p=none/\H₀ dx=none)/\ow p=some (i,0)/\ow dx=some (i,0)/\FdsAt K H₀ G H ow i m fs vs
noncomputable def DcoAt (K:PySem.W.Frag) (H₀ G H:Hp) (ow:kj) (i:Nat) (m:Bool) (p:Addr) (fs:List (Nat×Fd)):Prop:=
 ∃ o xs ks ds,H p=some (DctO p o xs)/\G p=none/\(m=true->H₀ p=none)/\ow p=some (i,0)/\KeysAt K G xs ks/\Reps K G (xs.map (·.2.2)) ds/\fs=ks.zip (ds.map Fd.val)
noncomputable abbrev DC:Addr:=0
noncomputable def ObjAt (K:PySem.W.Frag) (H₀ G H:Hp) (ow:kj) (i:Nat) (m:Bool) (C p:Addr) (fs:List (Nat×Fd)):Prop:=(C≠DC/\InsAt K H₀ G H ow i m C p fs)\/(C=DC/\DcoAt K H₀ G H ow i m p fs)
section
variable {K:PySem.W.Frag} {H₀ G H:Hp} {ow:kj} {i:Nat} {m:Bool} {C p:Addr} {fs:List (Nat×Fd)}
theorem ObjAt.dco (h:ObjAt K H₀ G H ow i m DC p fs):DcoAt K H₀ G H ow i m p fs:=(h.resolve_left fun z=>z.1 rfl).2
end
section
variable {K:PySem.W.Frag} {H₀ H₀' G H G' H':Hp} {ow ow':kj} {i:Nat}
structure ObKeep (H₀ H₀' G H G' H':Hp) (ow ow':kj) (i:Nat):Prop where
 hh:∀ a t o,ow a=some (i,t)->H a=some o->H' a=some o
 gg:Same G G'
 gn:∀ a t o,ow a=some (i,t)->H a=some o->G a=none->G' a=none
 oo:∀ a t o,ow a=some (i,t)->H a=some o->ow' a=some (i,t)
 h0:∀ a o,H a=some o->G a=none->H₀ a=none->H₀' a=none
theorem FdAt.keep (k:ObKeep H₀ H₀' G H G' H' ow ow' i) {m:Bool} {n:Nat}:∀ {fd:Fd} {v:V},FdAt K H₀ G H ow i m n fd v->FdAt K H₀' G' H' ow' i m n fd v
 | .val d,v,r=>Rep.mono k.gg (show Rep K G v d from r)
 | .own ds,v,⟨l,ws,e,h1,h2,h3,h4,h5⟩=>⟨l,ws,e,k.hh l _ _ h5 h1,k.gn l _ _ h5 h1 h2,fun z=>k.h0 l _ h1 h2 (h3 z),h4.mono k.gg,k.oo l _ _ h5 h1⟩
theorem FdsAt.keep (k:ObKeep H₀ H₀' G H G' H' ow ow' i) {m:Bool}:∀ {fs:List (Nat×Fd)} {vs:List (Str×V)},FdsAt K H₀ G H ow i m fs vs->FdsAt K H₀' G' H' ow' i m fs vs
 | _,_,.nil=>.nil
 | _,_,.cons h nk r t=>.cons h nk (FdAt.keep k r) (FdsAt.keep k t)
theorem InsAt.keep (k:ObKeep H₀ H₀' G H G' H' ow ow' i) {m:Bool} {p:Addr} {fs:List (Nat×Fd)} (h:InsAt K H₀ G H ow i m C p fs):InsAt K H₀' G' H' ow' i m C p fs:=by
 obtain ⟨dx,vs,h1,h2,h3,h4,h5,h6,h7,h8⟩:=h
 exact ⟨dx,vs,k.hh p _ _ h6 h1,k.hh dx _ _ h7 h2,k.gn p _ _ h6 h1 h3,k.gn dx _ _ h7 h2 h4,fun z=>⟨k.h0 p _ h1 h3 (h5 z).1,k.h0 dx _ h2 h4 (h5 z).2⟩,k.oo p _ _ h6 h1,k.oo dx _ _ h7 h2,h8.keep k⟩
theorem DcoAt.keep (k:ObKeep H₀ H₀' G H G' H' ow ow' i) {m:Bool} {p:Addr} {fs:List (Nat×Fd)} (h:DcoAt K H₀ G H ow i m p fs):DcoAt K H₀' G' H' ow' i m p fs:=
 let ⟨o,xs,ks,ds,h1,h2,h3,h4,h5,h6,h7⟩:=h
 ⟨o,xs,ks,ds,k.hh p _ _ h4 h1,k.gn p _ _ h4 h1 h2,fun z=>k.h0 p _ h1 h2 (h3 z),k.oo p _ _ h4 h1,h5.mono k.gg,h6.mono k.gg,h7⟩
theorem ObjAt.keep (k:ObKeep H₀ H₀' G H G' H' ow ow' i) {m:Bool} {p:Addr} {fs:List (Nat×Fd)} (h:ObjAt K H₀ G H ow i m C p fs):ObjAt K H₀' G' H' ow' i m C p fs:=h.imp (fun z=>⟨z.1,z.2.keep k⟩) fun z=>⟨z.1,z.2.keep k⟩
theorem ObKeep.up (u:Up G H G' H'):ObKeep H₀ H₀ G H G' H' ow ow i:=by
 have gn:∀ a o,H a=some o->G a=none->G' a=none:=fun a o e n=>by
  cases q:G' a with
  | none=>rfl
  | some o'=>
   rcases u.fr a o' q with z|z
   ·rw [n] at z;cases z
   ·rw [e] at z;cases z
 exact ⟨fun a t o _ e=>u.hh a o e,u.gg,fun a t o _ e n=>gn a o e n,fun a t o e _=>e,fun a o _ _ n=>n⟩
end
theorem ObjAt.rd {K:PySem.W.Frag} {H₀:Hp} {ow:kj} {m:Bool} {p:Addr} {fs:List (Nat×Fd)} (h:ObjAt K H₀ G H ow i m C p fs):ObjAt K (fun _=>none) G H ow i m C p fs:=
 h.keep ⟨fun _ _ _ _ e=>e,.refl _,fun _ _ _ _ _ n=>n,fun _ _ _ e _=>e,fun _ _ _ _ _=>rfl⟩
structure StE (K:PySem.W.Frag) (G H:Hp) (σ:St) (ρ:Ev):Prop where
 sub:Same G H
 len:σ.length=ρ.length
 val:∀ (i:Nat) d,ρ[i]?=some (some (.val d))->∃ v,σ[i]?=some (some v)/\Rep K G v d
 obs:∀ (i:Nat) m C p fs,ρ[i]?=some (some (.obj m C p fs))->σ[i]?=some (some (.ref p))/\∃ ow,ObjAt K (fun _=>none) G H ow i m C p fs
theorem StE.up {K:PySem.W.Frag} {G':Hp} {ρ:Ev} (s:StE K G H σ ρ) (u:Up G H G' H'):StE K G' H' σ ρ:=
 ⟨u.sub,s.len,fun i d e=>let ⟨v,h1,h2⟩:=s.val i d e;⟨v,h1,h2.mono u.gg⟩,fun i m C p fs e=>let ⟨h1,ow,h2⟩:=s.obs i m C p fs e;⟨h1,ow,h2.keep (.up u)⟩⟩
noncomputable def Cn (P:Program) (w:World) (outer:List Env) (H:Hp) (s:Shared) (a C:Addr) (H':Hp) (s':Shared):Prop:=
 s'.os=s.os/\AllBare s'.gens/\Un (frs outer) [] H H' s.heap s'.heap/\HOk P w H' s'.heap/\H' a=none/\
 ∃ (B:Heap) (a0:Value),Heap.FlyingW B outer a (.ref C) a0 s'.heap/\∀ b o,b ∉ frs outer->((∃ o0,s.heap.get? b=some o0)\/∃ u,H' b=some u)->s'.heap.get? b=some o->B.get? b=some o
noncomputable def CXo (P:Program) (w:World):CXT:=fun outer H s E e s'=>∃ a C H',e=.ref a/\Cn P w outer H s a C H' s'/\E (.ref C) none H'
noncomputable def J9 (X:Cx) (pins:List (Addr×Obj)) (b:Addr):Prop:=
 (b∈X.ex\/X.s₀.heap.objs.size<=b)/\b≠X.env.locals/\(∀ x c,X.env.cells.lookup x=some c->c≠b)/\∀ p∈X.pn++pins,p.1≠b
noncomputable def Be (X:Cx) (pins:List (Addr×Obj)) (L:Addr) (H:Hp) (s:Shared) (a C:Addr) (H':Hp) (s':Shared):Prop:=
 s'.os=s.os/\AllBare s'.gens/\(∃ ch,(∀ b∈ch,J9 X pins b)/\Un (frs X.stack) ch H H' s.heap s'.heap)/\HOk X.prog X.w H' s'.heap/\H' a=none/\s.heap.get? a=none/\
 ∃ (B:Heap) (a0:Value),Heap.HeldW B X.stack a (.ref C) a0 L s'.heap/\∀ b o,b ∉ frs X.stack->((∃ o0,s.heap.get? b=some o0)\/∃ u,H' b=some u)->s'.heap.get? b=some o->B.get? b=some o
noncomputable def JP (X:Cx) (σ:St) (G₁ H₁:Hp) (C:Addr) (e:Value) (s':Shared):Prop:=
 ∃ pins s₁ a,e=.ref a/\Inv X pins σ H₁ s₁/\
  ((∃ h' vs,Heap.MadeExcOf s₁.heap h' a (.ref C) vs/\s'={ s₁ with heap:=h' })\/(∃ G' H',Cn X.prog X.w X.stack H₁ s₁ a C H' s'/\Up G₁ H₁ G' H')\/∃ G' H' L,X.env.frame=some L/\Be X pins L H₁ s₁ a C H' s'/\Up G₁ H₁ G' H')
noncomputable def Fly (X:Cx) (σ:St) (G H:Hp) (C:Addr) (e:Value) (s':Shared):Prop:=∃ G₁ H₁,Up G H G₁ H₁/\JP X σ G₁ H₁ C e s'
theorem Fly.up {G1 H1:Hp} {e:Value} (u:Up G H G1 H1) (f:Fly X σ G1 H1 C e s'):Fly X σ G H C e s':=
 let ⟨G2,H2,v,q⟩:=f;⟨G2,H2,u.trans v,q⟩
section
variable {α β:Type}
noncomputable def Fin (G H:Hp) (rep:Hp->β->α->Prop) (Q:β->Hp->Prop):α->Prop:=fun d=>∀ v G' H',Up G H G' H'->rep G' v d->Q v H'
noncomputable def Exx (X:Cx) (σ:St) (G H:Hp):Addr->Prop:=fun C=>∀ e s',Fly X σ G H C e s'->X.xe e s'
theorem Fin.up {G1 H1:Hp} {rep:Hp->β->α->Prop} {Q:β->Hp->Prop} {d:α} (u:Up G H G1 H1) (h:Fin G H rep Q d):Fin G1 H1 rep Q d:=fun v G' H' u' r=>h v G' H' (u.trans u') r
theorem Exx.up {G1 H1:Hp} (u:Up G H G1 H1) (h:Exx X σ G H C):Exx X σ G1 H1 C:=fun e s' f=>h e s' (f.up u)
theorem pz {G1 H1:Hp} {rep:Hp->β->α->Prop} {Q:β->Hp->Prop} {m:R α} (u:Up G H G1 H1) (h:m.post (Fin G H rep Q) (Exx X σ G H)):m.post (Fin G1 H1 rep Q) (Exx X σ G1 H1):=
 h.mono (fun _=>Fin.up u) fun _=>Exx.up u
noncomputable def tG (X:Cx) (rep:Hp->β->α->Prop) (g:Ev->R α):St->Hp->(β->Hp->Prop)->Prop:=fun σ H Q=>∃ G ρ,StE X.K G H σ ρ/\(g ρ).post (Fin G H rep Q) (Exx X σ G H)
theorem tG.intro {γ δ:Type} {ρ:Ev} {rep:Hp->β->α->Prop} {rep':Hp->δ->γ->Prop} {g:Ev->R α} {k:α->R γ} {Q:β->Hp->Prop} {Q':δ->Hp->Prop} (st:StE X.K G H σ ρ)
 (h:(g ρ>>=k).post (Fin G H rep' Q') (Exx X σ G H)) (hk:∀ a,∀ v G1 H1,Up G H G1 H1->StE X.K G1 H1 σ ρ->rep G1 v a->(k a).post (Fin G1 H1 rep' Q') (Exx X σ G1 H1)->Q v H1):tG X rep g σ H Q:=by
 refine ⟨G,ρ,st,?_⟩
 cases e:g ρ with
 | ok a=>rw [e] at h;exact fun v G' H' u r=>hk a v G' H' u (st.up u) r (pz u h)
 | ex C=>rw [e] at h;exact h
 | no=>rw [e] at h;exact h
theorem tG.last {ρ:Ev} {rep:Hp->β->α->Prop} {g:Ev->R α} {Q:β->Hp->Prop} (st:StE X.K G H σ ρ) (h:(g ρ).post (Fin G H rep Q) (Exx X σ G H)):tG X rep g σ H Q:=⟨G,ρ,st,h⟩
end
noncomputable abbrev tF (X:Cx) (g:Ev->R D):TE:=tG X (Rep X.K) g
noncomputable abbrev tTF (X:Cx) (g:Ev->R Bool):TT:=tG X (fun _ b c=>b=c) g
noncomputable abbrev tAF (X:Cx) (g:Ev->R (List D)):TA:=tG X (Reps X.K) g
noncomputable def QF (X:Cx) (e:Expr) (g:Ev->R D):Prop:=PE X e (tF X g)
noncomputable def QB (X:Cx) (e:Expr) (g:Ev->R Bool):Prop:=PT X e (tTF X g)
noncomputable def QBW (X:Cx) (e:Expr) (g:Ev->R Bool):Prop:=PW X e (tTF X g)
noncomputable def QFA (X:Cx) (es:List Expr) (g:Ev->R (List D)):Prop:=PA X es (tAF X g)
end L2
variable {g gr aj aD av ai aq ah aE aV bw aH af bU cL:List L2.D->L2.R L2.D} {d:L2.D} {ds:List L2.D} {ow:L2.kj} {ρ:L2.Ev} {gl gi:L2.Ev->L2.R (List L2.D)} {asg:L2.D->L2.Ev->L2.R L2.Ev} {ge gb:L2.Ev->L2.R L2.D} {gs:List (L2.Ev->L2.R L2.D)} {fs':List (Nat×L2.Fd)} {kv:List (Nat×L2.D)}
namespace L2
open PySem PySem.Spec PyProof.Rows
theorem rdV.ok {P:D->Prop} {E:Addr->Prop} (h:(rdV ρ i).post P E):∃ d,ρ[i]?=some (some (.val d))/\P d:=by
 unfold rdV at h
 split at h
 ·rename_i d e;exact ⟨d,e,h⟩
 ·exact h.elim
section
variable {X:Cx} {e a b c:Expr} {ga gb gc:Ev->R D} {pos:Pos}
theorem uq (i:Nat) (hN:X.N[i]?=some x:=by rfl) (hv:Vis X.env.scope x:=by first|exact Or.inl rfl|exact Or.inr (Or.inl rfl)|exact Or.inr (Or.inr rfl)) (hd:(x==("__debug__":Str))=false:=by decide)
 (hcd:(x==("__classdict__":Str))=false:=by decide):QF X (.Name x pos) (fun ρ=>rdV ρ i):=by
 intro pins s σ H Q I h
 obtain ⟨G,ρ,st,h⟩:=h
 refine ip hN hv hd hcd pins s σ H Q I ?_
 obtain ⟨d,e,q⟩:=rdV.ok h
 obtain ⟨v,e',r⟩:=st.val i d e
 exact ⟨v,e',q v G H (.refl st.sub) r⟩
theorem fk (h:PE X e (tC v)) (hr:∀ K G,Rep K G v d):QF X e (fun _=>.ok d):=by
 intro pins s σ H Q I q
 obtain ⟨G,ρ,st,q⟩:=q
 exact h pins s σ H Q I (q v G H (.refl st.sub) (hr _ _))
noncomputable def ROk (K:PySem.W.Frag) (r:R2) (f:D->D->Option D):Prop:=∀ (G H:Hp) (x y:V) (dx dy d:D) (Q:VK),Same G H->Rep K G x dx->Rep K G y dy->f dx dy=some d->Fin G H (Rep K) Q d->r x y H Q
noncomputable def g2 (f:D->D->Option D) (ga gb:Ev->R D):Ev->R D:=fun ρ=>ga ρ>>=fun x=>gb ρ>>=fun y=>ofO (f x y)
theorem AJ {r:R2} {f:D->D->Option D} (hf:ROk X.K r f) {Q:VK} (h:tF X (g2 f ga gb) σ H Q):tOp r (tF X ga) (tF X gb) σ H Q:=by
 obtain ⟨G,ρ,st,h⟩:=h
 refine tG.intro st h fun x v G1 H1 u1 st1 r1 h1=>?_
 refine tG.intro st1 h1 fun y w G2 H2 u2 st2 r2 h2=>?_
 obtain ⟨d,e,q⟩:=ofO.ok h2
 exact hf G2 H2 v w x y d Q st2.sub (r1.mono u2.gg) r2 e q
theorem iZ {op:Operator} {r:R2} {f:D->D->Option D} (ho:OpR X (binaryOp op) r) (hf:ROk X.K r f) (ha:QF X a ga) (hb:QF X b gb):QF X (.BinOp a op b pos) (g2 f ga gb):=
 fun pins s σ H Q I h=>IA ho ha hb pins s σ H Q I (AJ hf h)
theorem uJ {op:CmpOp} {r:R2} {f:D->D->Option D} (ho:OpR X (compareOp op) r) (hf:ROk X.K r f) (ha:QF X a ga) (hb:QF X b gb) (hm:behindInMarks op b=false):QF X (.Compare a [op] [b] pos) (g2 f ga gb):=
 fun pins s σ H Q I h=>Cf ho ha hb hm pins s σ H Q I (AJ hf h)
noncomputable def g3 (f f':D->D->Option D) (ga gb gc:Ev->R D):Ev->R D:=fun ρ=>ga ρ>>=fun x=>gb ρ>>=fun y=>ofO (f x y)>>=fun z=>match z with
 | .bl true=>gc ρ>>=fun w=>ofO (f' y w)
 | .bl false=>.ok (.bl false)
 | _=>.no
theorem wI {op op':CmpOp} {r r':R2} {f f':D->D->Option D} (ho:OpR X (compareOp op) r) (ho':OpR X (compareOp op') r') (hf:ROk X.K r f) (hf':ROk X.K r' f') (ha:QF X a ga) (hb:QF X b gb) (hc:QF X c gc)
 (hm:lastMarks [op,op'] [b,c]=false:=by with_unfolding_all rfl):QF X (.Compare a [op,op'] [b,c] pos) (g3 f f' ga gb gc):=by
 intro pins s σ H Q I h
 refine Ai ho ho' ha hb hc hm pins s σ H Q I ?_
 obtain ⟨G,ρ,st,h⟩:=h
 refine tG.intro st h fun x v G1 H1 u1 st1 r1 h1=>?_
 refine tG.intro st1 h1 fun y w G2 H2 u2 st2 r2 h2=>?_
 cases e:f x y with
 | none=>rw [e] at h2;exact h2.elim
 | some d=>
  rw [e] at h2
  refine hf G2 H2 v w x y d _ st2.sub (r1.mono u2.gg) r2 e fun z G3 H3 u3 r3=>?_
  have h3:=pz u3 h2
  have st3:=st2.up u3
  cases r3 with
  | bl k=>
   refine ⟨k,rfl,?_⟩
   cases k with
   | false=>rw [if_neg Bool.false_ne_true];exact h3 _ G3 H3 (.refl st3.sub) (.bl false)
   | true=>
    rw [if_pos rfl]
    refine tG.intro st3 (show (gc ρ>>=fun w=>ofO (f' y w)).post _ _ from h3) fun q vq G4 H4 u4 st4 r4 h4=>?_
    obtain ⟨d,e',q'⟩:=ofO.ok h4
    exact hf' G4 H4 w vq y q d Q st4.sub ((r2.mono u3.gg).mono u4.gg) r4 e' q'
  | _=>exact h3.elim
end
section
variable {X:Cx}
noncomputable def ci:D->D->Option D
 | .int i,.int j=>some (.int (i+j))
 | .str x,.str y=>if x.length+y.length<=sizeLine then some (.str (x++y)) else none
 | .lst false xs,.lst false ys=>if xs.length+ys.length<=sizeLine then some (.lst false (xs++ys)) else none
 | .tup xs,.tup ys=>if xs.length+ys.length<=sizeLine then some (.tup (xs++ys)) else none
 | _,_=>none
noncomputable def Bk (K:PySem.W.Frag):R2:=fun x y H Q=>∃ a b xs ys,x=.ref a/\y=.ref b/\SqT K H a xs/\SqT K H b ys/\xs.length+ys.length<=sizeLine/\
 (xs=[]->Q (.ref b) H)/\(xs≠[]->ys=[]->Q (.ref a) H)/\(xs≠[]->ys≠[]->∀ p,H p=none->Q (.ref p) (upd H p (.tup (xs++ys))))
theorem AE:OpR X (binaryOp .Add) (Bk X.K):=by
 intro pins s σ H x y v u Q I rx ry h
 obtain ⟨a,b,xs,ys,rfl,rfl,ha,hb,hz,q0,q1,q2⟩:=h
 by_cases hx:xs=[]
 ·cases rx
  cases ry
  obtain ⟨its,r1,p1,_⟩:=I.tuple ha
  obtain ⟨its2,r2,p2,_⟩:=I.tuple hb
  have hi:its=[]:=r1.nil_iff.mpr hx
  obtain ⟨⟨cls,dd,data,sl⟩,ho,hc,n,hd⟩:=id p1
  obtain ⟨⟨cls2,dd2,data2,sl2⟩,ho2,hc2,n2,hd2⟩:=id p2
  simp only at hc hd hc2 hd2
  subst hc hd hc2 hd2
  exact concat_meets ⟨_,ho,rfl⟩ ⟨_,ho2,rfl⟩ noFill_tuple_add seq_tuple_add PySem.F.slot_tuple_add PySem.F.entry_tuple_add (PySem.F.args_tuple_add_2 _ _)
   (tuple_addW0 a b its.toArray its2.toArray n n2 dd dd2 sl sl2 (by simp [hi])) ⟨ho,ho2,.ref b,H,I,rfl,q0 hx⟩
 ·exact CJ pins s σ H _ _ v u Q I rx ry ⟨a,b,xs,ys,rfl,rfl,ha,hb,hx,hz,q1 hx,q2 hx⟩
noncomputable def FT (K:PySem.W.Frag):R2:=fun x y H Q=>(rI0 fun i j=>.int (i+j)) x y H Q\/(∃ i j,x=.str i/\y=.str j/\i.length+j.length<=sizeLine/\Q (.str (i++j)) H)\/JK x y H Q\/Bk K x y H Q
theorem C2:OpR X (binaryOp .Add) (FT X.K):=op_add.or (op_add_str.or (op_cat.or AE))
theorem Str.app_list (x y:Str):(x++y).cps.toList=x.cps.toList++y.cps.toList:=by
 show (x.cps++y.cps).toList=_
 simp
theorem Str.len_list (x:Str):x.cps.toList.length=x.length:=by simp [Str.length]
theorem En (K:PySem.W.Frag):ROk K (FT K) ci:=by
 intro G H x y dx dy d Q s rx ry e q
 unfold ci at e
 split at e
 ·cases e
  exact .inl ⟨_,_,rx.int_inv,ry.int_inv,q _ G H (.refl s) (.int _)⟩
 ·split at e
  ·rename_i hz
   cases e
   obtain ⟨i,rfl,ei,hi⟩:=rx.str_inv
   obtain ⟨j,rfl,ej,hj⟩:=ry.str_inv
   subst ei ej
   rw [Str.len_list,Str.len_list] at hz
   exact .inr (.inl ⟨i,j,rfl,rfl,hz,q _ G H (.refl s) (.strL (Str.app_list i j) (by rw [List.length_append,Str.len_list,Str.len_list];exact hz))⟩)
  ·cases e
 ·split at e
  ·rename_i hz
   cases e
   obtain ⟨a,vs,rfl,ha,ra⟩:=rx.lst_inv
   obtain ⟨b,ws,rfl,hb,rb⟩:=ry.lst_inv
   refine .inr (.inr (.inl ⟨a,b,vs,ws,rfl,rfl,s _ _ ha,s _ _ hb,by rw [ra.length,rb.length];exact hz,fun p hp=>q _ _ _ (.new s hp) (.lst aS ?_)⟩))
   exact (ra.append rb).mono (.into (s.free hp))
  ·cases e
 ·split at e
  ·rename_i hz
   cases e
   obtain ⟨a,vs,rfl,ha,ra⟩:=rx.tup_inv
   obtain ⟨b,ws,rfl,hb,rb⟩:=ry.tup_inv
   refine .inr (.inr (.inr ⟨a,b,vs,ws,rfl,rfl,ha.mono s,hb.mono s,by rw [ra.length,rb.length];exact hz,fun z=>?_,fun _ z=>?_,fun _ _ p hp=>?_⟩))
   ·subst z
    cases ra
    exact q _ G H (.refl s) (.tup hb rb)
   ·subst z
    cases rb
    rw [List.append_nil] at q
    exact q _ G H (.refl s) (.tup ha ra)
   ·exact q _ _ _ (.new s hp) (.tup (.of aS) ((ra.append rb).mono (.into (s.free hp))))
  ·cases e
 ·cases e
noncomputable def yv:D->D->Option D
 | .int i,.int j=>some (.int (i - j))
 | _,_=>none
noncomputable def Ao:D->D->Option D
 | .int i,.int j=>if 0<j/\j<1073741824 then some (.int (i / j)) else none
 | _,_=>none
noncomputable def xx:D->D->Option D
 | .int i,.int j=>if 0<j then some (.int (i % j)) else none
 | _,_=>none
end
section
variable {X:Cx} {a b c e:Expr} {ga gb gc:Ev->R D} {pos:Pos}
noncomputable def leD:D->D->Option D
 | .int i,.int j=>some (.bl (decide (i<=j)))
 | .str x,.str y=>some (.bl (!decide (y<x)))
 | _,_=>none
noncomputable def ltD:D->D->Option D
 | .int i,.int j=>some (.bl (decide (i<j)))
 | .str x,.str y=>some (.bl (decide (x<y)))
 | _,_=>none
noncomputable def gtD:D->D->Option D
 | .int i,.int j=>some (.bl (decide (j<i)))
 | _,_=>none
noncomputable def geD:D->D->Option D
 | .int i,.int j=>some (.bl (decide (j<=i)))
 | _,_=>none
theorem xv:OpR X (compareOp .LtE) (fun x y H Q=>∃ i j:Str,x=.str i/\y=.str j/\Q (.bl (!decide (j.cps.toList<i.cps.toList))) H):=by
 intro pins s σ H x y v u Q I rx ry h
 obtain ⟨i,j,rfl,rfl,q⟩:=h
 obtain ⟨t,rfl⟩:=rx
 obtain ⟨t',rfl⟩:=ry
 exact PySem.P.le_str (yq I q rfl)
theorem wK (K:PySem.W.Frag):ROk K (fun x y H Q=>(rI0 fun i j=>.bl (decide (i<=j))) x y H Q\/∃ i j:Str,x=.str i/\y=.str j/\Q (.bl (!decide (j.cps.toList<i.cps.toList))) H) leD:=by
 intro G H x y dx dy d Q s rx ry e q
 unfold leD at e
 split at e
 ·cases e
  exact .inl ⟨_,_,rx.int_inv,ry.int_inv,q _ G H (.refl s) (.bl _)⟩
 ·cases e
  obtain ⟨i,rfl,ei,hi⟩:=rx.str_inv
  obtain ⟨j,rfl,ej,hj⟩:=ry.str_inv
  subst ei ej
  exact .inr ⟨i,j,rfl,rfl,q _ G H (.refl s) (.bl _)⟩
 ·cases e
theorem GY (K:PySem.W.Frag):ROk K (fun x y H Q=>(rI0 fun i j=>.bl (decide (i<j))) x y H Q\/∃ i j:Str,x=.str i/\y=.str j/\Q (.bl (decide (i.cps.toList<j.cps.toList))) H) ltD:=by
 intro G H x y dx dy d Q s rx ry e q
 unfold ltD at e
 split at e
 ·cases e
  exact .inl ⟨_,_,rx.int_inv,ry.int_inv,q _ G H (.refl s) (.bl _)⟩
 ·cases e
  obtain ⟨i,rfl,ei,hi⟩:=rx.str_inv
  obtain ⟨j,rfl,ej,hj⟩:=ry.str_inv
  subst ei ej
  exact .inr ⟨i,j,rfl,rfl,q _ G H (.refl s) (.bl _)⟩
 ·cases e
theorem Iq (K:PySem.W.Frag):ROk K (rI0 fun i j=>.bl (decide (j<i))) gtD:=by
 intro G H x y dx dy d Q s rx ry e q
 unfold gtD at e
 split at e
 ·cases e
  exact ⟨_,_,rx.int_inv,ry.int_inv,q _ G H (.refl s) (.bl _)⟩
 ·cases e
theorem GZ (K:PySem.W.Frag):ROk K (rI0 fun i j=>.bl (decide (j<=i))) geD:=by
 intro G H x y dx dy d Q s rx ry e q
 unfold geD at e
 split at e
 ·cases e
  exact ⟨_,_,rx.int_inv,ry.int_inv,q _ G H (.refl s) (.bl _)⟩
 ·cases e
theorem nV:OpR X (compareOp .LtE) (fun x y H Q=>(rI0 fun i j=>.bl (decide (i<=j))) x y H Q\/∃ i j:Str,x=.str i/\y=.str j/\Q (.bl (!decide (j.cps.toList<i.cps.toList))) H):=op_le.or xv
theorem Gk:OpR X (compareOp .Lt) (fun x y H Q=>(rI0 fun i j=>.bl (decide (i<j))) x y H Q\/∃ i j:Str,x=.str i/\y=.str j/\Q (.bl (decide (i.cps.toList<j.cps.toList))) H):=op_lt.or yh
end
noncomputable def eqZ (f:D->D->Option Bool):List D->List D->Option (List Bool)
 | x::xs,y::ys=>(f x y).bind fun b=>(eqZ f xs ys).map (b::·)
 | _,_=>some []
noncomputable def eqD:Nat->D->D->Option Bool
 | 0,_,_=>none
 | n+1,a,b=>match a,b with
  | .non,.non=>some true
  | .bl x,.bl y=>some (x==y)
  | .int i,.int j=>some (i==j)
  | .str x,.str y=>some (x==y)
  | .bl x,.int j=>some ((if x then 1 else 0)==j)
  | .int i,.bl y=>some (i==(if y then 1 else 0))
  | .lst _ xs,.lst _ ys=>if xs.length=ys.length then (eqZ (eqD n) xs ys).map fun bs=>bs.all id else some false
  | .tup xs,.tup ys=>(eqZ (eqD n) xs ys).map fun bs=>bs.all id && xs.length==ys.length
  | .exc _,_=>none
  | .dct _ _,_=>none
  | _,.exc _=>none
  | _,.dct _ _=>none
  | _,_=>some false
theorem eqZ.get {f:D->D->Option Bool}:∀ {xs ys:List D} {bs:List Bool},eqZ f xs ys=some bs->bs.length=min xs.length ys.length/\∀ (j:Nat) (x y:D),xs[j]?=some x->ys[j]?=some y->∃ b,bs[j]?=some b/\f x y=some b
 | [],_,_,e=>by simp [eqZ] at e;subst e;exact ⟨by simp,fun j x y h=>by simp at h⟩
 | _::_,[],_,e=>by simp [eqZ] at e;subst e;exact ⟨by simp,fun j x y _ h=>by simp at h⟩
 | x::xs,y::ys,bs,e=>by
  unfold eqZ at e
  cases e1:f x y with
  | none=>rw [e1] at e;cases e
  | some b=>
   rw [e1] at e
   cases e2:eqZ f xs ys with
   | none=>rw [e2] at e;cases e
   | some cs=>
    rw [e2] at e
    cases e
    obtain ⟨h1,h2⟩:=eqZ.get e2
    refine ⟨by simp [h1],fun j=>?_⟩
    cases j with
    | zero=>intro x' y' hx hy;simp at hx hy;subst hx hy;exact ⟨b,rfl,e1⟩
    | succ j=>intro x' y' hx hy;exact h2 j x' y' (by simpa using hx) (by simpa using hy)
theorem lr {bs:List Bool} {n:Nat} (h:bs.length=n):(List.range n).all (fun j=>bs.getD j true)=bs.all id:=by
 subst h
 rw [Bool.eq_iff_iff,List.all_eq_true,List.all_eq_true]
 constructor
 ·intro h b hb
  obtain ⟨i,hi,rfl⟩:=List.mem_iff_getElem.mp hb
  have:=h i (by simpa using hi)
  simpa [List.getD_eq_getElem?_getD,hi] using this
 ·intro h j hj
  have hj':j<bs.length:=by simpa using hj
  have:=h bs[j] (List.getElem_mem hj')
  simpa [List.getD_eq_getElem?_getD,hj'] using this
theorem dt:(Value.type "list":Value) ≠ .type "tuple":=by
 intro h
 injection h with h
 exact absurd h (by decide)
section
variable {X:Cx} {pins:List (Addr×Obj)} {σ:St} {G H:Hp} {s:Shared}
open SeqAt
theorem fx (I:Inv X pins σ H s) (sub:Same G H):∀ (n:Nat) (a b:D) (k:Bool) (x:V),eqD n a b=some k->Rep X.K G x a->Rep X.K G x b->k=true:=by
 intro n
 induction n with
 | zero=>intro a b k x e;cases e
 | succ n ih=>
  have sq:∀ (vs:List V) (xs ys:List D),Reps X.K G vs xs->Reps X.K G vs ys->∀ bs,eqZ (eqD n) xs ys=some bs->bs.all id=true:=by
   intro vs
   induction vs with
   | nil=>intro xs ys h1 h2 bs e;cases h1;cases h2;simp [eqZ] at e;subst e;rfl
   | cons v vs ihv=>
    intro xs ys h1 h2 bs e
    cases h1 with
    | cons r1 t1=>
     cases h2 with
     | cons r2 t2=>
      unfold eqZ at e
      rename_i d1 ds1 d2 ds2
      cases e1:eqD n d1 d2 with
      | none=>rw [e1] at e;cases e
      | some b=>
       rw [e1] at e
       cases e2:eqZ (eqD n) ds1 ds2 with
       | none=>rw [e2] at e;cases e
       | some cs=>
        rw [e2] at e
        cases e
        rw [List.all_cons,ih _ _ _ _ e1 r1 r2,ihv _ _ t1 t2 _ e2]
        rfl
  intro a b k x e ra rb
  cases ra with
  | non=>cases rb;simp [eqD] at e;exact e
  | bl y=>cases rb;simp [eqD] at e;exact e
  | int i=>cases rb;simp [eqD] at e;exact e
  | str y h=>
   cases rb with
   | str z h'=>simp [eqD] at e;exact e
  | tup h r=>
   cases rb with
   | tup h' r'=>
    have q:=I.tuple_inj (h.mono sub) (h'.mono sub)
    subst q
    simp only [eqD] at e
    rename_i ds es
    cases e2:eqZ (eqD n) ds es with
    | none=>rw [e2] at e;cases e
    | some cs=>
     rw [e2] at e
     have this:(cs.all id && ds.length==es.length)=k:=Option.some.inj e
     rw [sq _ _ _ r r' _ e2,Bool.true_and] at this
     rw [<- this,<- r.length,<- r'.length]
     simp
   | lst h' r'=>
    obtain ⟨its,_,⟨o,e1,c1,_⟩,_⟩:=I.tuple (h.mono sub)
    obtain ⟨_,its',n',_,e2⟩:=I.hok _ _ (sub _ _ h')
    rw [e1] at e2;cases e2;exact absurd c1 dt
   | fls h' r'=>
    obtain ⟨its,_,⟨o,e1,c1,_⟩,_⟩:=I.tuple (h.mono sub)
    obtain ⟨its',_,⟨o',n',e2,c2,_⟩,_⟩:=I.list (h'.mono sub)
    rw [e1] at e2;cases e2;rw [c1] at c2;exact absurd c2.symm dt
   | exc h'=>simp [eqD] at e
   | dct _ _ _=>simp [eqD] at e
  | lst h r=>
   have hl:SqL X.K G _ _:=SqL.of h
   cases rb with
   | tup h' r'=>
    obtain ⟨its,_,⟨o,e1,c1,_⟩,_⟩:=I.tuple (h'.mono sub)
    obtain ⟨_,its',n',_,e2⟩:=I.hok _ _ (sub _ _ h)
    rw [e1] at e2;cases e2;exact absurd c1 dt
   | lst h' r'=>
    rw [h] at h';cases h'
    simp only [eqD] at e
    rw [if_pos (by rw [<- r.length,<- r'.length])] at e
    rename_i ds es
    cases e2:eqZ (eqD n) ds es with
    | none=>rw [e2] at e;cases e
    | some cs=>rw [e2] at e;have:=Option.some.inj e;rw [<- this];exact sq _ _ _ r r' _ e2
   | fls h' r'=>
    have q:=I.list_inj (hl.mono sub) (h'.mono sub)
    subst q
    simp only [eqD] at e
    rw [if_pos (by rw [<- r.length,<- r'.length])] at e
    rename_i ds es
    cases e2:eqZ (eqD n) ds es with
    | none=>rw [e2] at e;cases e
    | some cs=>rw [e2] at e;have:=Option.some.inj e;rw [<- this];exact sq _ _ _ r r' _ e2
   | exc h'=>simp [eqD] at e
   | dct _ _ _=>simp [eqD] at e
  | fls h r=>
   cases rb with
   | tup h' r'=>
    obtain ⟨its,_,⟨o,e1,c1,_⟩,_⟩:=I.tuple (h'.mono sub)
    obtain ⟨its',_,⟨o',n',e2,c2,_⟩,_⟩:=I.list (h.mono sub)
    rw [e1] at e2;cases e2;rw [c1] at c2;exact absurd c2.symm dt
   | lst h' r'=>
    have q:=I.list_inj (h.mono sub) ((SqL.of h':SqL X.K G _ _).mono sub)
    subst q
    simp only [eqD] at e
    rw [if_pos (by rw [<- r.length,<- r'.length])] at e
    rename_i ds es
    cases e2:eqZ (eqD n) ds es with
    | none=>rw [e2] at e;cases e
    | some cs=>rw [e2] at e;have:=Option.some.inj e;rw [<- this];exact sq _ _ _ r r' _ e2
   | fls h' r'=>
    have q:=I.list_inj (h.mono sub) (h'.mono sub)
    subst q
    simp only [eqD] at e
    rw [if_pos (by rw [<- r.length,<- r'.length])] at e
    rename_i ds es
    cases e2:eqZ (eqD n) ds es with
    | none=>rw [e2] at e;cases e
    | some cs=>rw [e2] at e;have:=Option.some.inj e;rw [<- this];exact sq _ _ _ r r' _ e2
   | exc h'=>simp [eqD] at e
   | dct _ _ _=>simp [eqD] at e
  | exc h=>simp [eqD] at e
  | dct _ _ _=>simp [eqD] at e
structure Eqs (A:Around) (s:Shared) (v u:Value) (k:Bool):Prop where
 eq:EqAt A s v u k
 rc:RcAt A s v u k
 ne:RcNeAt A s v u (!k)
theorem iJ {f:Bool} {x:V} (I:Inv X pins σ H s) (sub:Same G H) (r:Rep X.K G x (.lst f ds)) (ru:RelV x u):∃ a its vs,u=.ref a/\s.heap.IsList a (List.toArray its)/\Vals vs its/\Reps X.K G vs ds:=by
 obtain ⟨a,vs,rfl,h,t⟩:=r.seq_inv
 cases ru
 obtain ⟨its,rv,⟨o,n,e1,c1,_,d1⟩,_⟩:=I.list (h.mono sub)
 exact ⟨a,its,vs,rfl,⟨o,e1,c1,n,d1⟩,rv,t⟩
theorem mM {x:V} (I:Inv X pins σ H s) (sub:Same G H) (r:Rep X.K G x (.tup ds)) (ru:RelV x u):∃ a its vs,u=.ref a/\s.heap.IsTuple a (List.toArray its)/\Vals vs its/\Reps X.K G vs ds:=by
 obtain ⟨a,vs,rfl,h,t⟩:=r.tup_inv
 cases ru
 obtain ⟨its,rv,p,_⟩:=I.tuple (h.mono sub)
 exact ⟨a,its,vs,rfl,p,rv,t⟩
theorem yx (I:Inv X pins σ H s) (sub:Same G H):∀ (n:Nat) (A:Around) (a b:D) (k:Bool) (x y:V) (v u:Value),A.units+n<cLine->eqD n a b=some k->Rep X.K G x a->Rep X.K G y b->RelV x v->RelV y u->Eqs A s v u k:=by
 intro n
 induction n with
 | zero=>intro A a b k x y v u _ e;cases e
 | succ n ih=>
  have sq:∀ (A:Around) (vs ws:List V) (xs ys:List D) (is js:List Value) (bs:List Bool),A.units+(n+1)<cLine->Reps X.K G vs xs->Reps X.K G ws ys->Vals vs is->Vals ws js->eqZ (eqD n) xs ys=some bs->
    bs.length=min is.length js.length/\∀ j (h1:j<is.toArray.size) (h2:j<js.toArray.size),EqAt A.in1 s is.toArray[j] js.toArray[j] (bs.getD j true):=by
   intro A vs ws xs ys is js bs hA r1 r2 v1 v2 e
   obtain ⟨h1,h2⟩:=eqZ.get e
   refine ⟨by rw [h1,<- r1.length,<- r2.length,v1.length,v2.length],fun j q1 q2=>?_⟩
   rw [List.size_toArray] at q1 q2
   have p1:j<xs.length:=by rw [<- r1.length,v1.length];exact q1
   have p2:j<ys.length:=by rw [<- r2.length,v2.length];exact q2
   obtain ⟨b,e1,e2⟩:=h2 j xs[j] ys[j] (by simp [p1]) (by simp [p2])
   obtain ⟨x',ex,rx⟩:=r1.get (i:=j) (d:=xs[j]) (by simp [p1])
   obtain ⟨y',ey,ry⟩:=r2.get (i:=j) (d:=ys[j]) (by simp [p2])
   obtain ⟨u1,eu1,ru1⟩:=v1.get ex
   obtain ⟨u2,eu2,ru2⟩:=v2.get ey
   have g1:is.toArray[j]=u1:=by simpa [q1] using eu1
   have g2:js.toArray[j]=u2:=by simpa [q2] using eu2
   rw [List.getD_eq_getElem?_getD,e1]
   simp only [List.getElem_toArray] at g1 g2 ⊢
   rw [g1,g2]
   exact (ih A.in1 _ _ b x' y' u1 u2 (by show A.units+1+n<cLine;omega) e2 rx ry ru1 ru2).eq
  intro A a b k x y v u hA e ra rb rv ru
  have hu:A.units<cLine:=by omega
  have same:∀ c d:Addr,v=.ref c->u=.ref d->c=d->k=true:=fun c d h1 h2 h3=>by
   subst h1 h2 h3
   cases ra with
   | tup h r=>cases rv;cases rb with
    | tup h' r'=>cases ru;exact fx I sub (n+1) _ _ k _ e (.tup h r) (.tup h' r')
    | lst h' r'=>cases ru;exact fx I sub (n+1) _ _ k _ e (.tup h r) (.lst h' r')
    | fls h' r'=>cases ru;exact fx I sub (n+1) _ _ k _ e (.tup h r) (.fls h' r')
    | exc h'=>simp [eqD] at e
    | dct _ _ _=>simp [eqD] at e
    | str _ _=>obtain ⟨t,z⟩:=ru;cases z
    | int _=>obtain ⟨t,z⟩:=ru;cases z
    | non=>cases ru
    | bl _=>cases ru
   | lst h r=>cases rv;cases rb with
    | tup h' r'=>cases ru;exact fx I sub (n+1) _ _ k _ e (.lst h r) (.tup h' r')
    | lst h' r'=>cases ru;exact fx I sub (n+1) _ _ k _ e (.lst h r) (.lst h' r')
    | fls h' r'=>cases ru;exact fx I sub (n+1) _ _ k _ e (.lst h r) (.fls h' r')
    | exc h'=>simp [eqD] at e
    | dct _ _ _=>simp [eqD] at e
    | str _ _=>obtain ⟨t,z⟩:=ru;cases z
    | int _=>obtain ⟨t,z⟩:=ru;cases z
    | non=>cases ru
    | bl _=>cases ru
   | fls h r=>cases rv;cases rb with
    | tup h' r'=>cases ru;exact fx I sub (n+1) _ _ k _ e (.fls h r) (.tup h' r')
    | lst h' r'=>cases ru;exact fx I sub (n+1) _ _ k _ e (.fls h r) (.lst h' r')
    | fls h' r'=>cases ru;exact fx I sub (n+1) _ _ k _ e (.fls h r) (.fls h' r')
    | exc h'=>simp [eqD] at e
    | dct _ _ _=>simp [eqD] at e
    | str _ _=>obtain ⟨t,z⟩:=ru;cases z
    | int _=>obtain ⟨t,z⟩:=ru;cases z
    | non=>cases ru
    | bl _=>cases ru
   | exc h=>simp [eqD] at e
   | dct _ _ _=>simp [eqD] at e
   | str _ _=>obtain ⟨t,z⟩:=rv;cases z
   | int _=>obtain ⟨t,z⟩:=rv;cases z
   | non=>cases rv
   | bl _=>cases rv
  have refs:∀ c d:Addr,v=.ref c->u=.ref d->RcAt A s v u k->EqAt A s v u k:=fun c d h1 h2 h=>by
   subst h1 h2
   by_cases h3:c=d
   ·have:=same c d rfl rfl h3
    subst h3 this
    exact EqAt.same _
   ·exact EqAt.of_refs h3 h
  cases a with
  | exc C=>simp [eqD] at e
  | dct _ _=>simp [eqD] at e
  | non=>
   obtain rfl:=ra.non_inv
   cases rv
   cases b with
   | exc C=>simp [eqD] at e
   | dct _ _=>simp [eqD] at e
   | non=>obtain rfl:=rb.non_inv;cases ru;simp [eqD] at e;subst e;exact ⟨EqAt.same _,RcAt.none_none,RcNeAt.none_none⟩
   | bl z=>obtain rfl:=rb.bl_inv;cases ru;simp [eqD] at e;subst e;exact ⟨EqAt.none_bool _,RcAt.none_bool _,RcNeAt.none_bool _⟩
   | int z=>obtain rfl:=rb.int_inv;obtain ⟨t,rfl⟩:=ru;simp [eqD] at e;subst e;exact ⟨EqAt.none_int _ _,RcAt.none_int _ _,RcNeAt.none_int _ _⟩
   | str z=>obtain ⟨z,rfl,-,-⟩:=rb.str_inv;obtain ⟨t,rfl⟩:=ru;simp [eqD] at e;subst e;exact ⟨EqAt.none_str _ _,RcAt.none_str _ _,RcNeAt.none_str _ _⟩
   | tup ds=>obtain ⟨c,its,vs,rfl,p,_,_⟩:=mM I sub rb ru;simp [eqD] at e;subst e;exact ⟨EqAt.none_tuple p hu,RcAt.none_tuple p hu,RcNeAt.none_tuple p hu⟩
   | lst f ds=>obtain ⟨c,its,vs,rfl,p,_,_⟩:=iJ I sub rb ru;simp [eqD] at e;subst e;exact ⟨EqAt.none_list p hu,RcAt.none_list p hu,RcNeAt.none_list p hu⟩
  | bl w=>
   obtain rfl:=ra.bl_inv
   cases rv
   cases b with
   | exc C=>simp [eqD] at e
   | dct _ _=>simp [eqD] at e
   | non=>obtain rfl:=rb.non_inv;cases ru;simp [eqD] at e;subst e;exact ⟨EqAt.bool_none _,RcAt.bool_none _,RcNeAt.bool_none _⟩
   | bl z=>obtain rfl:=rb.bl_inv;cases ru;simp only [eqD] at e;cases e;exact ⟨EqAt.bool_bool _ _,RcAt.bool_bool _ _,RcNeAt.bool_bool _ _⟩
   | int z=>obtain rfl:=rb.int_inv;obtain ⟨t,rfl⟩:=ru;simp only [eqD] at e;cases e;exact ⟨EqAt.bool_int _ _ _,RcAt.bool_int _ _ _,RcNeAt.bool_int _ _ _⟩
   | str z=>obtain ⟨z,rfl,-,-⟩:=rb.str_inv;obtain ⟨t,rfl⟩:=ru;simp [eqD] at e;subst e;exact ⟨EqAt.bool_str _ _ _,RcAt.bool_str _ _ _,RcNeAt.bool_str _ _ _⟩
   | tup ds=>obtain ⟨c,its,vs,rfl,p,_,_⟩:=mM I sub rb ru;simp [eqD] at e;subst e;exact ⟨EqAt.bool_tuple _ p hu,RcAt.bool_tuple _ p hu,RcNeAt.bool_tuple _ p hu⟩
   | lst f ds=>obtain ⟨c,its,vs,rfl,p,_,_⟩:=iJ I sub rb ru;simp [eqD] at e;subst e;exact ⟨EqAt.bool_list _ p hu,RcAt.bool_list _ p hu,RcNeAt.bool_list _ p hu⟩
  | int w=>
   obtain rfl:=ra.int_inv
   obtain ⟨t0,rfl⟩:=rv
   cases b with
   | exc C=>simp [eqD] at e
   | dct _ _=>simp [eqD] at e
   | non=>obtain rfl:=rb.non_inv;cases ru;simp [eqD] at e;subst e;exact ⟨EqAt.int_none _ _,RcAt.int_none _ _,RcNeAt.int_none _ _⟩
   | bl z=>obtain rfl:=rb.bl_inv;cases ru;simp only [eqD] at e;cases e;exact ⟨EqAt.int_bool _ _ _,RcAt.int_bool _ _ _,RcNeAt.int_bool _ _ _⟩
   | int z=>obtain rfl:=rb.int_inv;obtain ⟨t,rfl⟩:=ru;simp only [eqD] at e;cases e;exact ⟨EqAt.int_int _ _ _ _,RcAt.int_int _ _ _ _,RcNeAt.int_int _ _ _ _⟩
   | str z=>obtain ⟨z,rfl,-,-⟩:=rb.str_inv;obtain ⟨t,rfl⟩:=ru;simp [eqD] at e;subst e;exact ⟨EqAt.int_str _ _ _ _,RcAt.int_str _ _ _ _,RcNeAt.int_str _ _ _ _⟩
   | tup ds=>obtain ⟨c,its,vs,rfl,p,_,_⟩:=mM I sub rb ru;simp [eqD] at e;subst e;exact ⟨EqAt.int_tuple _ _ p hu,RcAt.int_tuple _ _ p hu,RcNeAt.int_tuple _ _ p hu⟩
   | lst f ds=>obtain ⟨c,its,vs,rfl,p,_,_⟩:=iJ I sub rb ru;simp [eqD] at e;subst e;exact ⟨EqAt.int_list _ _ p hu,RcAt.int_list _ _ p hu,RcNeAt.int_list _ _ p hu⟩
  | str w=>
   obtain ⟨w,rfl,ew,-⟩:=ra.str_inv
   obtain ⟨t0,rfl⟩:=rv
   cases b with
   | exc C=>simp [eqD] at e
   | dct _ _=>simp [eqD] at e
   | non=>obtain rfl:=rb.non_inv;cases ru;simp [eqD] at e;subst e;exact ⟨EqAt.str_none _ _,RcAt.str_none _ _,RcNeAt.str_none _ _⟩
   | bl z=>obtain rfl:=rb.bl_inv;cases ru;simp [eqD] at e;subst e;exact ⟨EqAt.str_bool _ _ _,RcAt.str_bool _ _ _,RcNeAt.str_bool _ _ _⟩
   | int z=>obtain rfl:=rb.int_inv;obtain ⟨t,rfl⟩:=ru;simp [eqD] at e;subst e;exact ⟨EqAt.str_int _ _ _ _,RcAt.str_int _ _ _ _,RcNeAt.str_int _ _ _ _⟩
   | str z=>
    obtain ⟨z,rfl,ez,-⟩:=rb.str_inv;obtain ⟨t,rfl⟩:=ru
    simp only [eqD] at e
    subst ew ez
    rw [str_beq] at e
    cases e
    exact ⟨EqAt.str_str _ _ _ _,RcAt.str_str _ _ _ _,RcNeAt.str_str _ _ _ _⟩
   | tup ds=>obtain ⟨c,its,vs,rfl,p,_,_⟩:=mM I sub rb ru;simp [eqD] at e;subst e;exact ⟨EqAt.str_tuple _ _ p hu,RcAt.str_tuple _ _ p hu,RcNeAt.str_tuple _ _ p hu⟩
   | lst f ds=>obtain ⟨c,its,vs,rfl,p,_,_⟩:=iJ I sub rb ru;simp [eqD] at e;subst e;exact ⟨EqAt.str_list _ _ p hu,RcAt.str_list _ _ p hu,RcNeAt.str_list _ _ p hu⟩
  | tup ds1=>
   obtain ⟨c1,its1,vs1,rfl,p1,w1,q1⟩:=mM I sub ra rv
   cases b with
   | exc C=>simp [eqD] at e
   | dct _ _=>simp [eqD] at e
   | non=>obtain rfl:=rb.non_inv;cases ru;simp [eqD] at e;subst e;exact ⟨EqAt.tuple_none p1 hu,RcAt.tuple_none p1 hu,RcNeAt.tuple_none p1 hu⟩
   | bl z=>obtain rfl:=rb.bl_inv;cases ru;simp [eqD] at e;subst e;exact ⟨EqAt.tuple_bool _ p1 hu,RcAt.tuple_bool _ p1 hu,RcNeAt.tuple_bool _ p1 hu⟩
   | int z=>obtain rfl:=rb.int_inv;obtain ⟨t,rfl⟩:=ru;simp [eqD] at e;subst e;exact ⟨EqAt.tuple_int _ _ p1 hu,RcAt.tuple_int _ _ p1 hu,RcNeAt.tuple_int _ _ p1 hu⟩
   | str z=>obtain ⟨z,rfl,-,-⟩:=rb.str_inv;obtain ⟨t,rfl⟩:=ru;simp [eqD] at e;subst e;exact ⟨EqAt.tuple_str _ _ p1 hu,RcAt.tuple_str _ _ p1 hu,RcNeAt.tuple_str _ _ p1 hu⟩
   | lst f ds=>obtain ⟨c,its,vs,rfl,p,_,_⟩:=iJ I sub rb ru;simp [eqD] at e;subst e;exact ⟨EqAt.tuple_list p1 p hu,RcAt.tuple_list p1 p hu,RcNeAt.tuple_list p1 p hu⟩
   | tup ds2=>
    obtain ⟨c2,its2,vs2,rfl,p2,w2,q2⟩:=mM I sub rb ru
    simp only [eqD] at e
    cases e2:eqZ (eqD n) ds1 ds2 with
    | none=>rw [e2] at e;cases e
    | some bs=>
     rw [e2] at e
     have ek:=Option.some.inj e
     obtain ⟨hl,he⟩:=sq A _ _ _ _ _ _ bs hA q1 q2 w1 w2 e2
     have e3:((List.range (min its1.toArray.size its2.toArray.size)).all (fun j=>bs.getD j true) && its1.toArray.size==its2.toArray.size)=k:=by
      rw [<- ek,List.size_toArray,List.size_toArray,lr hl,<- w1.length,<- w2.length,q1.length,q2.length]
     have hrc:RcAt A s (.ref c1) (.ref c2) k:=by rw [<- e3];exact RcAt.tuples p1 p2 hu he
     have hne:RcNeAt A s (.ref c1) (.ref c2) (!k):=by rw [<- e3];exact RcNeAt.tuples p1 p2 hu he
     exact ⟨refs _ _ rfl rfl hrc,hrc,hne⟩
  | lst f1 ds1=>
   obtain ⟨c1,its1,vs1,rfl,p1,w1,q1⟩:=iJ I sub ra rv
   cases b with
   | exc C=>simp [eqD] at e
   | dct _ _=>simp [eqD] at e
   | non=>obtain rfl:=rb.non_inv;cases ru;simp [eqD] at e;subst e;exact ⟨EqAt.list_none p1 hu,RcAt.list_none p1 hu,RcNeAt.list_none p1 hu⟩
   | bl z=>obtain rfl:=rb.bl_inv;cases ru;simp [eqD] at e;subst e;exact ⟨EqAt.list_bool _ p1 hu,RcAt.list_bool _ p1 hu,RcNeAt.list_bool _ p1 hu⟩
   | int z=>obtain rfl:=rb.int_inv;obtain ⟨t,rfl⟩:=ru;simp [eqD] at e;subst e;exact ⟨EqAt.list_int _ _ p1 hu,RcAt.list_int _ _ p1 hu,RcNeAt.list_int _ _ p1 hu⟩
   | str z=>obtain ⟨z,rfl,-,-⟩:=rb.str_inv;obtain ⟨t,rfl⟩:=ru;simp [eqD] at e;subst e;exact ⟨EqAt.list_str _ _ p1 hu,RcAt.list_str _ _ p1 hu,RcNeAt.list_str _ _ p1 hu⟩
   | tup ds=>obtain ⟨c,its,vs,rfl,p,_,_⟩:=mM I sub rb ru;simp [eqD] at e;subst e;exact ⟨EqAt.list_tuple p1 p hu,RcAt.list_tuple p1 p hu,RcNeAt.list_tuple p1 p hu⟩
   | lst f2 ds2=>
    obtain ⟨c2,its2,vs2,rfl,p2,w2,q2⟩:=iJ I sub rb ru
    simp only [eqD] at e
    by_cases hlen:ds1.length=ds2.length
    ·rw [if_pos hlen] at e
     cases e2:eqZ (eqD n) ds1 ds2 with
     | none=>rw [e2] at e;cases e
     | some bs=>
      rw [e2] at e
      have ek:=Option.some.inj e
      obtain ⟨hl,he⟩:=sq A _ _ _ _ _ _ bs hA q1 q2 w1 w2 e2
      have hz:its1.toArray.size=its2.toArray.size:=by rw [List.size_toArray,List.size_toArray,<- w1.length,<- w2.length,q1.length,q2.length];exact hlen
      have e3:(List.range its1.toArray.size).all (fun j=>bs.getD j true)=k:=by
       rw [<- ek,lr]
       rw [hl,List.size_toArray]
       simp only [List.size_toArray] at hz
       omega
      have hrc:RcAt A s (.ref c1) (.ref c2) k:=by rw [<- e3];exact RcAt.lists p1 p2 hz hu he
      have hne:RcNeAt A s (.ref c1) (.ref c2) (!k):=by rw [<- e3];exact RcNeAt.lists p1 p2 hz hu he
      exact ⟨refs _ _ rfl rfl hrc,hrc,hne⟩
    ·rw [if_neg hlen] at e
     cases e
     have hz:(its1.toArray.size != its2.toArray.size)=true:=by
      rw [List.size_toArray,List.size_toArray,<- w1.length,<- w2.length,q1.length,q2.length]
      simpa using hlen
     have hrc:RcAt A s (.ref c1) (.ref c2) false:=RcAt.lists_lengths p1 p2 hz hu
     exact ⟨refs _ _ rfl rfl hrc,hrc,RcNeAt.lists_lengths p1 p2 hz hu⟩
end
section
variable {X:Cx} {a b:Expr} {ga gb:Ev->R D} {pos:Pos}
noncomputable def eqF (x y:D):Option D:=(eqD 40 x y).map .bl
noncomputable def neF (x y:D):Option D:=(eqD 40 x y).map fun k=>.bl (!k)
noncomputable def Ir (K:PySem.W.Frag) (neg:Bool):R2:=fun x y H Q=>∃ G dx dy k,Same G H/\Rep K G x dx/\Rep K G y dy/\eqD 40 dx dy=some k/\Q (.bl (if neg then !k else k)) H
theorem Bj (hu:X.A.units+64<cLine):OpR X (compareOp .Eq) (Ir X.K false):=by
 intro pins s σ H x y v u Q I rx ry h
 obtain ⟨G,dx,dy,k,sub,r1,r2,e,q⟩:=h
 exact (yx I sub 40 X.A dx dy k x y v u (by omega) e r1 r2 rx ry).rc _ _ _ _ ⟨.bl k,H,I,rfl,q⟩
theorem E5 (hu:X.A.units+64<cLine):OpR X (compareOp .NotEq) (Ir X.K true):=by
 intro pins s σ H x y v u Q I rx ry h
 obtain ⟨G,dx,dy,k,sub,r1,r2,e,q⟩:=h
 exact (yx I sub 40 X.A dx dy k x y v u (by omega) e r1 r2 rx ry).ne _ _ _ _ ⟨.bl (!k),H,I,rfl,q⟩
end
end L2
namespace L2
open PySem PySem.Spec PyProof.Rows
section
variable {X:Cx} {a b c e:Expr} {es cG:List Expr} {ga gb gc:Ev->R D} {gt gu:Ev->R Bool} {gl:Ev->R (List D)} {pos:Pos}
noncomputable def isD:D->D->Option Bool
 | .non,.non=>some true
 | _,.non=>some false
 | .bl x,.bl y=>some (x==y)
 | _,_=>none
noncomputable def isF (x y:D):Option D:=(isD x y).map .bl
noncomputable def rIs (neg:Bool):R2:=fun x y H Q=>(y=.non/\Q (.bl (if neg then !decide (x=.non) else decide (x=.non))) H)\/∃ i j,x=.bl i/\y=.bl j/\Q (.bl (if neg then !(i==j) else (i==j))) H
theorem FF:OpR X (compareOp .Is) (rIs false):=op_isN.or (r':=fun x y H Q=>∃ i j,x=.bl i/\y=.bl j/\Q (.bl (i==j)) H) (by
 intro pins s σ H x y v u Q I rx ry h
 obtain ⟨i,j,rfl,rfl,q⟩:=h
 cases rx
 cases ry
 exact is_bool ⟨.bl _,H,I,rfl,q⟩)
theorem Hj (K:PySem.W.Frag) (neg:Bool):ROk K (rIs neg) (fun x y=>(isD x y).map fun k=>.bl (if neg then !k else k)):=by
 intro G H x y dx dy d Q s rx ry e q
 dsimp only at e
 cases e1:isD dx dy with
 | none=>rw [e1] at e;cases e
 | some k=>
  rw [e1] at e
  have ed:D.bl (if neg=true then !k else k)=d:=Option.some.inj e
  subst ed
  unfold isD at e1
  split at e1
  ·cases e1
   exact .inl ⟨ry.non_inv,by rw [rx.non_inv];exact q _ G H (.refl s) (.bl _)⟩
  ·rename_i hx
   cases e1
   have hn:x ≠ .non:=fun z=>by subst z;cases rx;exact hx rfl
   refine .inl ⟨ry.non_inv,?_⟩
   rw [decide_eq_false hn]
   exact q _ G H (.refl s) (.bl _)
  ·cases e1
   exact .inr ⟨_,_,rx.bl_inv,ry.bl_inv,q _ G H (.refl s) (.bl _)⟩
  ·cases e1
noncomputable def asB:D->R Bool
 | .bl k=>.ok k
 | _=>.no
noncomputable def pi (ga gb:Ev->R D):Ev->R D:=fun ρ=>ga ρ>>=fun x=>asB x>>=fun k=>if k=true then gb ρ else .ok (.bl false)
noncomputable def gOr (ga gb:Ev->R D):Ev->R D:=fun ρ=>ga ρ>>=fun x=>asB x>>=fun k=>if k=true then .ok (.bl true) else gb ρ
noncomputable def HM (ga:Ev->R D):Ev->R D:=fun ρ=>ga ρ>>=fun x=>asB x>>=fun k=>.ok (.bl (!k))
theorem asB.ok {β:Type} {K:PySem.W.Frag} {k:Bool->R β} {P:β->Prop} {E:Addr->Prop} (r:Rep K G v d) (h:(asB d>>=k).post P E):∃ c,v=.bl c/\d=.bl c/\(k c).post P E:=by
 cases r with
 | bl c=>exact ⟨c,rfl,rfl,h⟩
 | _=>exact h.elim
noncomputable def El:D->R D
 | .int i=>.ok (.int (-i))
 | _=>.no
theorem A5 (ha:QF X a ga):QF X (.UnaryOp .USub a pos) (fun ρ=>ga ρ>>=El):=by
 intro pins s σ H Q I h
 refine II FG ha pins s σ H Q I ?_
 obtain ⟨G,ρ,st,h⟩:=h
 refine tG.intro st h fun x v G1 H1 u1 st1 r1 h1=>?_
 cases r1 with
 | int i=>exact ⟨i,rfl,h1 _ G1 H1 (.refl st1.sub) (.int _)⟩
 | _=>exact h1.elim
noncomputable def jx:D->R Bool
 | .non=>.ok false
 | .bl k=>.ok k
 | .int i=>.ok (i != 0)
 | .str x=>.ok (!x.isEmpty)
 | .tup xs=>.ok (!xs.isEmpty)
 | .lst _ xs=>.ok (!xs.isEmpty)
 | .exc _=>.no
 | .dct _ _=>.no
theorem Reps.isEmpty {K:PySem.W.Frag} (r:Reps K G vs ds):vs.isEmpty=ds.isEmpty:=by cases r <;> rfl
theorem oh (h:QF X e ga) (he:∀ whole,isTrue e X.env whole=(do let v <- whole;standAt e.pos;holding [v] (truthy v)):=by intro _;rfl):QB X e (fun ρ=>ga ρ>>=jx):=by
 intro pins s σ H Q I hq
 refine zw h he pins s σ H Q I ?_
 obtain ⟨G,ρ,st,hq⟩:=hq
 refine tG.intro st hq fun x v G1 H1 u1 st1 r1 h1=>?_
 have fin:∀ k,jx x=.ok k->Q k H1:=fun k ek=>by rw [ek] at h1;exact h1 k G1 H1 (.refl st1.sub) rfl
 cases r1 with
 | non=>exact ⟨_,rfl,fin _ rfl⟩
 | bl k=>exact ⟨_,rfl,fin _ rfl⟩
 | int i=>exact ⟨_,rfl,fin _ rfl⟩
 | str y hy=>
  refine ⟨_,⟨hy,rfl⟩,fin _ ?_⟩
  show R.ok _=R.ok _
  congr 1
  have:y.cps.toList.length=y.length:=Str.len_list y
  cases h:y.cps.toList with
  | nil=>rw [h] at this;rw [<- this];rfl
  | cons c cs=>rw [h] at this;rw [<- this];simp;omega
 | tup h r=>exact ⟨_,.inr (.inl ⟨_,h.mono st1.sub,rfl⟩),fin _ (by show R.ok _=R.ok _;rw [r.isEmpty])⟩
 | lst h r=>exact ⟨_,.inl ⟨_,.of (st1.sub _ _ h),rfl⟩,fin _ (by show R.ok _=R.ok _;rw [r.isEmpty])⟩
 | fls h r=>exact ⟨_,.inl ⟨_,h.mono st1.sub,rfl⟩,fin _ (by show R.ok _=R.ok _;rw [r.isEmpty])⟩
 | _=>exact h1.elim
theorem fD {op:CmpOp} {r:R2} {f:D->D->Option D} (ho:OpR X (compareOp op) r) (hf:ROk X.K r f) (ha:QF X a ga) (hb:QF X b gb) (hm:behindInMarks op b=false):QB X (.Compare a [op] [b] pos) (fun ρ=>g2 f ga gb ρ>>=asB):=by
 intro pins s σ H Q I h
 refine sy ho ha hb hm pins s σ H Q I ?_
 obtain ⟨G,ρ,st,h⟩:=h
 refine AJ hf ?_
 refine tG.intro st h fun x v G1 H1 u1 st1 r1 h1=>?_
 cases r1 with
 | bl k=>exact ⟨k,rfl,h1 k G1 H1 (.refl st1.sub) rfl⟩
 | _=>exact h1.elim
theorem DR (ha:QF X a ga) (hb:QF X b gb):QB X (.Compare a [.Lt] [b] pos) (fun ρ=>g2 ltD ga gb ρ>>=asB):=fD Gk (GY _) ha hb (jg _)
theorem BS (ha:QF X a ga) (hb:QF X b gb):QB X (.Compare a [.LtE] [b] pos) (fun ρ=>g2 leD ga gb ρ>>=asB):=fD nV (wK _) ha hb (jg _)
theorem DL (ha:QF X a ga) (hb:QF X b gb):QB X (.Compare a [.Gt] [b] pos) (fun ρ=>g2 gtD ga gb ρ>>=asB):=fD Ji (Iq _) ha hb (jg _)
theorem A8 (K:PySem.W.Frag) (neg:Bool):ROk K (Ir K neg) (fun x y=>(eqD 40 x y).map fun k=>.bl (if neg then !k else k)):=by
 intro G H x y dx dy d Q s rx ry e q
 dsimp only at e
 cases e1:eqD 40 dx dy with
 | none=>rw [e1] at e;cases e
 | some k=>rw [e1] at e;cases e;exact ⟨G,dx,dy,k,s,rx,ry,e1,q _ G H (.refl s) (.bl _)⟩
theorem DP (hu:X.A.units+64<cLine) (ha:QF X a ga) (hb:QF X b gb):QB X (.Compare a [.Eq] [b] pos) (fun ρ=>g2 eqF ga gb ρ>>=asB):=fD (Bj hu) (A8 _ false) ha hb (jg _)
theorem DQ (hu:X.A.units+64<cLine) (ha:QF X a ga) (hb:QF X b gb):QB X (.Compare a [.NotEq] [b] pos) (fun ρ=>g2 neF ga gb ρ>>=asB):=fD (E5 hu) (A8 _ true) ha hb (jg _)
theorem CS (ha:QF X a ga) (hb:QF X b gb):QB X (.Compare a [.Is] [b] pos) (fun ρ=>g2 isF ga gb ρ>>=asB):=fD FF (Hj _ false) ha hb (jg _)
theorem wH {op op':CmpOp} {r r':R2} {f f':D->D->Option D} (ho:OpR X (compareOp op) r) (ho':OpR X (compareOp op') r') (hf:ROk X.K r f) (hf':ROk X.K r' f') (ha:QF X a ga) (hb:QF X b gb) (hc:QF X c gc)
 (hm:lastMarks [op,op'] [b,c]=false:=by with_unfolding_all rfl):QB X (.Compare a [op,op'] [b,c] pos) (fun ρ=>g3 f f' ga gb gc ρ>>=asB):=by
 intro pins s σ H Q I h
 refine zL ho ho' ha hb hc hm pins s σ H Q I ?_
 obtain ⟨G,ρ,st,h⟩:=h
 have h':(ga ρ>>=fun x=>gb ρ>>=fun y=>ofO (f x y)>>=fun z=>(match z with|.bl true=>gc ρ>>=fun w=>ofO (f' y w)|.bl false=>.ok (.bl false)|_=>.no)>>=asB).post (Fin G H (fun _ b c=>b=c) Q) (Exx X σ G H):=by
  have e:(g3 f f' ga gb gc ρ>>=asB)=(ga ρ>>=fun x=>gb ρ>>=fun y=>ofO (f x y)>>=fun z=>(match z with|.bl true=>gc ρ>>=fun w=>ofO (f' y w)|.bl false=>.ok (.bl false)|_=>.no)>>=asB):=by
   unfold g3
   cases ga ρ with
   | ok x=>cases gb ρ with
    | ok y=>simp only [R.ok_bind];cases ofO (f x y) <;> rfl
    | _=>rfl
   | _=>rfl
  rw [<- e];exact h
 refine tG.intro st h' fun x v G1 H1 u1 st1 r1 h1=>?_
 refine tG.intro st1 h1 fun y w G2 H2 u2 st2 r2 h2=>?_
 cases e:f x y with
 | none=>rw [e] at h2;exact h2.elim
 | some d=>
  rw [e] at h2
  refine hf G2 H2 v w x y d _ st2.sub (r1.mono u2.gg) r2 e fun z G3 H3 u3 r3=>?_
  have h3:=pz u3 h2
  have st3:=st2.up u3
  cases r3 with
  | bl k=>
   refine ⟨k,rfl,?_⟩
   cases k with
   | false=>rw [if_neg Bool.false_ne_true];exact ⟨false,rfl,h3 _ G3 H3 (.refl st3.sub) rfl⟩
   | true=>
    rw [if_pos rfl]
    have h3':(gc ρ>>=fun w=>ofO (f' y w)>>=asB).post (Fin G3 H3 (fun _ b c=>b=c) Q) (Exx X σ G3 H3):=by
     have e:((gc ρ>>=fun w=>ofO (f' y w))>>=asB)=(gc ρ>>=fun w=>ofO (f' y w)>>=asB):=by cases gc ρ <;> rfl
     rw [<- e];exact h3
    refine tG.intro st3 h3' fun q vq G4 H4 u4 st4 r4 h4=>?_
    cases e':f' y q with
    | none=>rw [e'] at h4;exact h4.elim
    | some d'=>
     rw [e'] at h4
     refine hf' G4 H4 w vq y q d' _ st4.sub ((r2.mono u3.gg).mono u4.gg) r4 e' fun z' G5 H5 u5 r5=>?_
     have h5:=pz u5 h4
     cases r5 with
     | bl k'=>exact ⟨k',rfl,h5 k' G5 H5 (.refl u5.sub) rfl⟩
     | _=>exact h5.elim
  | _=>exact h3.elim
theorem yg (ha:QF X a ga) (hb:QF X b gb) (hc:QF X c gc) (hm:lastMarks [.LtE,.LtE] [b,c]=false:=by with_unfolding_all rfl):QB X (.Compare a [.LtE,.LtE] [b,c] pos) (fun ρ=>g3 leD leD ga gb gc ρ>>=asB):=wH nV nV (wK _) (wK _) ha hb hc hm
noncomputable def GV (t u:Ev->R Bool):Ev->R Bool:=fun ρ=>t ρ>>=fun k=>if k=true then u ρ else .ok false
noncomputable def sN (t u:Ev->R Bool):Ev->R Bool:=fun ρ=>t ρ>>=fun k=>if k=true then .ok true else u ρ
theorem zu (ha:QB X a gt):QB X (.UnaryOp .Not a pos) (fun ρ=>gt ρ>>=fun k=>.ok (!k)):=by
 intro pins s σ H Q I h
 refine Fk ha pins s σ H Q I ?_
 obtain ⟨G,ρ,st,h⟩:=h
 refine tG.intro st h fun x v G1 H1 u1 st1 r1 h1=>?_
 subst r1
 exact h1 _ G1 H1 (.refl st1.sub) rfl
noncomputable def gIf (gt:Ev->R Bool) (ga gb:Ev->R D):Ev->R D:=fun ρ=>gt ρ>>=fun k=>if k=true then ga ρ else gb ρ
theorem rK:QFA X [] (fun _=>.ok []):=by
 intro pos pins s σ H Q I h
 obtain ⟨G,ρ,st,h⟩:=h
 exact lC pos pins s σ H Q I (h [] G H (.refl st.sub) .nil)
theorem wR (ha:QF X e ga) (hr:QFA X es gl) (hs:starEach (e::es) X.env=(false,eval e X.env)::starEach es X.env:=by rfl):QFA X (e::es) (fun ρ=>ga ρ>>=fun x=>gl ρ>>=fun xs=>.ok (x::xs)):=by
 intro pos pins s σ H Q I h
 refine fN ha hr hs pos pins s σ H Q I ?_
 obtain ⟨G,ρ,st,h⟩:=h
 refine tG.intro st h fun x v G1 H1 u1 st1 r1 h1=>?_
 refine tG.intro st1 h1 fun y w G2 H2 u2 st2 r2 h2=>?_
 exact h2 _ G2 H2 (.refl st2.sub) (.cons (r1.mono u2.gg) r2)
noncomputable def mkT (ds:List D):R D:=if ds.length<=sizeLine then .ok (.tup ds) else .no
theorem As (h:QFA X es gl):QF X (.Tuple es k pos) (fun ρ=>gl ρ>>=mkT):=by
 intro pins s σ H Q I hq
 refine Gw h pins s σ H Q I ?_
 obtain ⟨G,ρ,st,hq⟩:=hq
 refine tG.intro st hq fun ds vs G1 H1 u1 st1 r1 h1=>?_
 unfold mkT at h1
 split at h1
 ·rename_i hz
  exact ⟨by rw [r1.length];exact hz,fun p hp=>h1 _ _ _ (.new st1.sub hp) (.tup (.of aS) (r1.mono (.into (st1.sub.free hp))))⟩
 ·exact h1.elim
theorem Bn {c:Nat}:[c].length<=sizeLine:=by show 1<=sizeLine;decide
noncomputable def ixD:D->D->Option D
 | .lst _ xs,.int i=>atI xs i
 | .tup xs,.int i=>atI xs i
 | .str x,.int i=>(atI x i).map fun c=>.str [c]
 | _,_=>none
theorem Reps.atI {K:PySem.W.Frag} {G:Hp} {vs:List V} {ds:List D} {i:Int} {d:D} (r:Reps K G vs ds) (h:atI ds i=some d):∃ v,atI vs i=some v/\Rep K G v d:=by
 unfold L2.atI at h ⊢
 rw [r.length]
 cases e:ixN ds.length i with
 | none=>rw [e] at h;cases h
 | some j=>rw [e] at h;exact r.get h
theorem G0 (K:PySem.W.Frag):ROk K (rIx K) ixD:=by
 intro G H x y dx dy d Q s rx ry e q
 unfold ixD at e
 split at e
 ·obtain ⟨a,vs,rfl,h,r⟩:=rx.seq_inv
  obtain ⟨v,e1,r1⟩:=r.atI e
  exact .inl ⟨a,vs,_,v,rfl,ry.int_inv,h.mono s,e1,q v G H (.refl s) r1⟩
 ·obtain ⟨a,vs,rfl,h,r⟩:=rx.tup_inv
  obtain ⟨v,e1,r1⟩:=r.atI e
  exact .inr (.inl ⟨a,vs,_,v,rfl,ry.int_inv,h.mono s,e1,q v G H (.refl s) r1⟩)
 ·rename_i z i
  obtain ⟨y',rfl,ey,hy⟩:=rx.str_inv
  subst ey
  cases e1:L2.atI y'.cps.toList i with
  | none=>rw [e1] at e;cases e
  | some c=>
   rw [e1] at e
   cases e
   exact .inr (.inr ⟨y',i,c,rfl,ry.int_inv,hy,e1,q _ G H (.refl s) (.strL (by simp) Bn)⟩)
 ·cases e
end
noncomputable def jz {α:Type} (xs:List α) (lo hi:Option Int):List α:=(xs.drop (HT.sIx xs.length 0 lo)).take (HT.sIx xs.length xs.length hi - HT.sIx xs.length 0 lo)
theorem Cv {α:Type} (xs:List α) (lo hi:Option Int):(jz xs lo hi).length<=xs.length:=by
 unfold jz
 rw [List.length_take,List.length_drop]
 omega
theorem Reps.cut {K:PySem.W.Frag} (r:Reps K G vs ds) (lo hi:Option Int):Reps K G (Bv vs lo hi) (jz ds lo hi):=by
 unfold Bv jz
 rw [r.length]
 exact (r.drop _).take _
section
variable {X:Cx} {a b c e:Expr} {es cG:List Expr} {lo hi:Option Expr} {ga gb gc:Ev->R D} {go gp:Ev->R (Option Int)} {gl:Ev->R (List D)} {pos p2:Pos}
noncomputable def Fh (K:PySem.W.Frag):V->Option Int->Option Int->Hp->VK->Prop:=fun x lo hi H Q=>∃ a xs,x=.ref a/\SqT K H a xs/\
 (HT.sIx xs.length 0 lo=0/\HT.sIx xs.length xs.length hi=xs.length)/\Q (.ref a) H
theorem sl_tup_whole:SlR X (Fh X.K):=by
 intro pins s σ H x v vl vu lo hi sl Q I rx hs pl pu h
 obtain ⟨a,xs,rfl,hx,⟨hw1,hw2⟩,q⟩:=h
 cases rx
 obtain ⟨its,r,ht,hz⟩:=I.tuple hx
 have hlen:its.toArray.size=xs.length:=by rw [List.size_toArray];exact r.length.symm
 refine ⟨"tuple",_,PyProof.Rows.slot_tuple_getitem.lookup,ht.typeIs,?_⟩
 obtain ⟨os,hos,hcs,hds⟩:=id hs
 have hTs:s.TypeIs (.ref sl) "slice":=⟨os,hos,hcs⟩
 unfold getItem
 try with_reducible refine wpAny_holding ?_
 first|refine wpAny_bind (wpAny_pure ?_)|skip
 refine wpAny_bind (wpAny_sequenceKey ht.typeIs (by decide) ?_)
 refine wpAny_bind (wpAny_callSpecial?_slot (name:=Str.ofString "__getitem__") ht.typeIs PyProof.Rows.slot_tuple_getitem
  (wpAny_call_entry PyProof.Rows.slot_tuple_getitem ht.typeIs entry_tuple_getitem ?_ (args_tuple_getitem _ _)))
 show wpAny _ _ (Builtin.Tuple.tupleItemsOf (.ref a)>>=_) _ _ s
 refine wpAny_bind (tupleItemsOf_ ht ?_)
 refine wpAny_bind (wpAny_typeOf hTs ?_)
 rw [if_pos (by decide)]
 refine wpAny_bind (HT.sliceApplied_gen hs pl pu ?_)
 rw [hlen,hw1,hw2]
 dsimp only
 rw [if_pos (by simp)]
 have fin:EP X pins σ Q (.ref a) s:=⟨.ref a,H,I,rfl,q⟩
 obtain ⟨o,ho,hc,n,hd⟩:=id ht
 unfold Builtin.Tuple.tupleIsExact
 refine wpAny_bind (wpAny_bind (wpAny_typeOf ht.typeIs (wpAny_pure ?_)))
 rw [if_pos (by decide)]
 exact wpAny_bind (wpAny_rule (wpAny_pure ⟨_,rfl,wpAny_pure fin⟩))
theorem Er {α:Type} (xs:List α) (a:Nat):∀ k:Nat,((List.range k).map (a + ·)).filterMap (fun i:Nat=>xs[i]?)=(xs.drop a).take k
 | 0=>by simp
 | k+1=>by
  rw [List.range_succ,List.map_append,List.filterMap_append,Er xs a k,List.take_add_one,List.getElem?_drop]
  congr 1
  try (simp only [List.map_cons,List.map_nil,List.filterMap_cons,List.filterMap_nil];cases xs[a+k]? <;> rfl)
theorem uE (n d:Nat) (v:Option Int):(match v with|none=>(d:Int)|some i=>max 0 (min (if i<0 then i+(n:Int) else i) (n:Int)))=((HT.sIx n d v:Nat):Int):=by
 cases v with
 | none=>rfl
 | some i=>
  show max 0 (min (if i<0 then i+(n:Int) else i) (n:Int))=(((if i<0 then (i+(n:Int)).toNat else min i.toNat n):Nat):Int)
  split <;> omega
theorem Cm (lo hi:Option Int) (n:Nat):Builtin.Str.strSliceIndices lo hi 1 n=(List.range (HT.sIx n n hi - HT.sIx n 0 lo)).map (HT.sIx n 0 lo + ·):=by
 have e:Builtin.Str.strSliceIndices lo hi 1 n=sliceRange ((HT.sIx n 0 lo:Nat):Int) ((HT.sIx n n hi:Nat):Int) 1:=by
  rw [<- uE n 0 lo,<- uE n n hi]
  rfl
 rw [e]
 generalize HT.sIx n 0 lo=a
 generalize HT.sIx n n hi=b
 unfold sliceRange
 have hc:(if (1:Int) > 0 then (if (a:Int)<(b:Int) then ((b:Int) - (a:Int)+1 - 1) / 1 else 0) else (if (a:Int) > (b:Int) then ((a:Int) - (b:Int) - 1 - 1) / (-1) else 0)).toNat=b - a:=by
  rw [if_pos (by decide)]
  split
  ·rw [Int.ediv_one];omega
  ·omega
 simp only [hc]
 apply List.map_congr_left
 intro k _
 omega
theorem ye (x:Str) (lo hi:Option Int):(Txt.slice x lo hi).cps.toList=jz x.cps.toList lo hi:=by
 have hn:x.cps.toList.length=x.length:=Str.len_list x
 unfold Txt.slice jz
 rw [hn,Cm]
 have hb:HT.sIx x.length x.length hi<=x.length:=HT.sIx_le _ _ (Nat.le_refl _) hi
 by_cases hc:((1:Int)==1 && ((List.range (HT.sIx x.length x.length hi - HT.sIx x.length 0 lo)).map (HT.sIx x.length 0 lo + ·)).length==x.length)=true
 ·rw [if_pos hc]
  have h2:HT.sIx x.length x.length hi - HT.sIx x.length 0 lo=x.length:=by simpa using hc
  have h3:HT.sIx x.length 0 lo=0\/x.length=0:=by omega
  rw [h2]
  rcases h3 with h3|h3
  ·rw [h3,List.drop_zero,<- hn,List.take_length]
  ·have:x.cps.toList=[]:=List.eq_nil_of_length_eq_zero (by rw [hn];exact h3)
   rw [this];simp
 ·rw [if_neg hc]
  have e:(fun i:Nat=>x.cps[i]?)=(fun i:Nat=>x.cps.toList[i]?):=by funext i;simp
  show (List.filterMap (fun i:Nat=>x.cps[i]?) _).toArray.toList=_
  rw [List.toList_toArray,e,Er]
noncomputable def JC:V->Option Int->Option Int->Hp->VK->Prop:=fun x lo hi H Q=>∃ y:Str,x=.str y/\y.length<=sizeLine/\Q (.str (Txt.slice y lo hi)) H
theorem sl_str:SlR X JC:=by
 intro pins s σ H x v vl vu lo hi sl Q I rx hs pl pu h
 obtain ⟨y,rfl,hz,q⟩:=h
 obtain ⟨t,rfl⟩:=rx
 refine ⟨"str",_,F.slot_str_getitem.lookup,typeIs_str _ _ _,?_⟩
 cases pl with
 | none=>
  cases pu with
  | none=>exact wpAny_getItem_str_slice (l:=none) (u:=none) (st:=none) hs rfl (post_val_or_str ⟨Nat.le_trans (Txt.slice_le y _ _) hz,fun t' k=>⟨.str _,H,I.tok k,⟨t',rfl⟩,q⟩⟩)
  | int j uj=>exact wpAny_getItem_str_slice (l:=none) (u:=some (j,uj)) (st:=none) hs rfl (post_val_or_str ⟨Nat.le_trans (Txt.slice_le y _ _) hz,fun t' k=>⟨.str _,H,I.tok k,⟨t',rfl⟩,q⟩⟩)
 | int i ui=>
  cases pu with
  | none=>exact wpAny_getItem_str_slice (l:=some (i,ui)) (u:=none) (st:=none) hs rfl (post_val_or_str ⟨Nat.le_trans (Txt.slice_le y _ _) hz,fun t' k=>⟨.str _,H,I.tok k,⟨t',rfl⟩,q⟩⟩)
  | int j uj=>exact wpAny_getItem_str_slice (l:=some (i,ui)) (u:=some (j,uj)) (st:=none) hs rfl (post_val_or_str ⟨Nat.le_trans (Txt.slice_le y _ _) hz,fun t' k=>⟨.str _,H,I.tok k,⟨t',rfl⟩,q⟩⟩)
noncomputable def CA (lo hi:Option Int):D->Option D
 | .str x=>some (.str (jz x lo hi))
 | .tup xs=>some (.tup (jz xs lo hi))
 | .lst _ xs=>some (.lst false (jz xs lo hi))
 | _=>none
noncomputable def rSl (K:PySem.W.Frag):V->Option Int->Option Int->Hp->VK->Prop:=fun x lo hi H Q=>JC x lo hi H Q\/Fh K x lo hi H Q\/JG K x lo hi H Q\/JQ K x lo hi H Q
theorem Gh:SlR X (rSl X.K):=sl_str.or (sl_tup_whole.or (sl_tup.or Cq))
noncomputable def QFO (X:Cx) (o:Option Expr) (g:Ev->R (Option Int)):Prop:=PO X o (tG X (fun _ b c=>b=c) g)
noncomputable def asI:D->R Int
 | .int i=>.ok i
 | _=>.no
theorem wc (h:QF X e ga):QFO X (some e) (fun ρ=>ga ρ>>=fun x=>asI x>>=fun i=>.ok (some i)):=by
 intro pins s σ H Q I hq
 refine C8 h pins s σ H Q I ?_
 obtain ⟨G,ρ,st,hq⟩:=hq
 refine tG.intro st hq fun x v G1 H1 u1 st1 r1 h1=>?_
 cases r1 with
 | int i=>exact ⟨i,rfl,h1 (some i) G1 H1 (.refl st1.sub) rfl⟩
 | _=>exact h1.elim
noncomputable def gSl (ga:Ev->R D) (go gp:Ev->R (Option Int)):Ev->R D:=fun ρ=>ga ρ>>=fun x=>go ρ>>=fun l=>gp ρ>>=fun u=>ofO (CA l u x)
noncomputable def D5 (K:PySem.W.Frag) (r:List V->Hp->VK->Prop) (f:List D->Option D):Prop:=∀ (G H:Hp) (xs:List V) (ds:List D) (d:D) (Q:VK),Same G H->Reps K G xs ds->f ds=some d->Fin G H (Rep K) Q d->r xs H Q
theorem jJ {id:String} {r:List V->Hp->VK->Prop} {f:List D->Option D} (hc:kP X (.builtin id) r) (hf:D5 X.K r f) (hg:Gl X x) (hm:X.mg x=none) (hv:bootBuiltins x=some (.builtin id)) (ha:QFA X (e::es) gl)
 (hn:x ≠ "__name__":=by decide) (hdb:(x==("__debug__":Str))=false:=by decide)
 (he:starEach (e::es) X.env=(false,eval e X.env)::starEach es X.env:=by rfl) (hpl:(backTo pos (starEach es X.env)).any (·.1)=false:=by rfl):QF X (.Call (.Name x p) (e::es) [] pos) (fun ρ=>gl ρ>>=fun ds=>ofO (f ds)):=by
 intro pins s σ H Q I h
 refine uY hc hg hm hv ha hn hdb he hpl pins s σ H Q I ?_
 obtain ⟨G,ρ,st,h⟩:=h
 refine tG.intro st h fun ds vs G1 H1 u1 st1 r1 h1=>?_
 obtain ⟨d,e,q⟩:=ofO.ok h1
 exact hf G1 H1 vs ds d Q st1.sub r1 e q
theorem ma {T:String} {r:List V->Hp->VK->Prop} {f:List D->Option D} (hc:kP X (.type T) r) (hf:D5 X.K r f) (hg:Gl X x) (hm:X.mg x=none) (hv:bootBuiltins x=some (.type T)) (ha:QFA X (e::es) gl)
 (hn:x ≠ "__name__":=by decide) (hdb:(x==("__debug__":Str))=false:=by decide)
 (he:starEach (e::es) X.env=(false,eval e X.env)::starEach es X.env:=by rfl) (hpl:(backTo pos (starEach es X.env)).any (·.1)=false:=by rfl):QF X (.Call (.Name x p) (e::es) [] pos) (fun ρ=>gl ρ>>=fun ds=>ofO (f ds)):=by
 intro pins s σ H Q I h
 refine mF hc hg hm hv ha hn hdb he hpl pins s σ H Q I ?_
 obtain ⟨G,ρ,st,h⟩:=h
 refine tG.intro st h fun ds vs G1 H1 u1 st1 r1 h1=>?_
 obtain ⟨d,e,q⟩:=ofO.ok h1
 exact hf G1 H1 vs ds d Q st1.sub r1 e q
theorem Reps.one {K:PySem.W.Frag} (r:Reps K G vs [d]):∃ v,vs=[v]/\Rep K G v d:=by
 cases r with
 | cons r t=>cases t;exact ⟨_,rfl,r⟩
theorem Reps.two {K:PySem.W.Frag} {d':D} (r:Reps K G vs [d,d']):∃ v w,vs=[v,w]/\Rep K G v d/\Rep K G w d':=by
 cases r with
 | cons r t=>obtain ⟨w,rfl,r'⟩:=t.one;exact ⟨_,w,rfl,r,r'⟩
noncomputable def eX:List D->Option D
 | [.str x]=>some (.int x.length)
 | [.tup xs]=>some (.int xs.length)
 | [.lst _ xs]=>some (.int xs.length)
 | _=>none
theorem zP (hg:Gl X "len") (hm:X.mg "len"=none) (ha:QFA X [e] gl) (he:starEach [e] X.env=[(false,eval e X.env)]:=by rfl):QF X (.Call (.Name "len" p) [e] [] pos) (fun ρ=>gl ρ>>=fun ds=>ofO (eX ds)):=
 jJ zJ (by
  intro G H xs ds d Q s r e q
  unfold eX at e
  split at e
  ·cases e
   obtain ⟨v,rfl,r1⟩:=r.one
   obtain ⟨y,rfl,ey,hy⟩:=r1.str_inv
   subst ey
   exact ⟨_,y.length,rfl,⟨hy,rfl⟩,by rw [<- Str.len_list];exact q _ G H (.refl s) (.int _)⟩
  ·cases e
   obtain ⟨v,rfl,r1⟩:=r.one
   obtain ⟨a,vs,rfl,h,t⟩:=r1.tup_inv
   exact ⟨_,vs.length,rfl,.inr ⟨vs,h.mono s,rfl⟩,by rw [t.length];exact q _ G H (.refl s) (.int _)⟩
  ·cases e
   obtain ⟨v,rfl,r1⟩:=r.one
   obtain ⟨a,vs,rfl,h,t⟩:=r1.seq_inv
   exact ⟨_,vs.length,rfl,.inl ⟨vs,h.mono s,rfl⟩,by rw [t.length];exact q _ G H (.refl s) (.int _)⟩
  ·cases e) hg hm PySem.boot_len ha (he:=by rw [he];rfl)
noncomputable def rf:List D->Option D
 | [.lst _ xs]=>some (.tup xs)
 | [.tup xs]=>some (.tup xs)
 | _=>none
noncomputable def xQ:List D->Option D
 | [.lst _ xs]=>some (.lst false xs)
 | [.tup xs]=>some (.lst false xs)
 | _=>none
theorem AN (K:PySem.W.Frag):D5 K (fun xs H Q=>∃ p ys,xs=[.ref p]/\((SqL K H p ys/\∀ l,H l=none->Q (.ref l) (upd H l (.tup ys)))\/(SqT K H p ys/\Q (.ref p) H))) rf:=by
 intro G H xs ds d Q s r e q
 unfold rf at e
 split at e
 ·cases e
  obtain ⟨v,rfl,r1⟩:=r.one
  obtain ⟨a,vs,rfl,h,t⟩:=r1.seq_inv
  exact ⟨a,vs,rfl,.inl ⟨h.mono s,fun l hl=>q _ _ _ (.new s hl) (.tup (.of aS) (t.mono (.into (s.free hl))))⟩⟩
 ·cases e
  obtain ⟨v,rfl,r1⟩:=r.one
  obtain ⟨a,vs,rfl,h,t⟩:=r1.tup_inv
  exact ⟨a,vs,rfl,.inr ⟨h.mono s,q _ G H (.refl s) (.tup h t)⟩⟩
 ·cases e
theorem DZ (K:PySem.W.Frag):D5 K (fun xs H Q=>∃ p ys,xs=[.ref p]/\(SqL K H p ys\/SqT K H p ys)/\∀ l,H l=none->Q (.ref l) (upd H l (.lst ys))) xQ:=by
 intro G H xs ds d Q s r e q
 unfold xQ at e
 split at e
 ·cases e
  obtain ⟨v,rfl,r1⟩:=r.one
  obtain ⟨a,vs,rfl,h,t⟩:=r1.seq_inv
  exact ⟨a,vs,rfl,.inl (h.mono s),fun l hl=>q _ _ _ (.new s hl) (.lst aS (t.mono (.into (s.free hl))))⟩
 ·cases e
  obtain ⟨v,rfl,r1⟩:=r.one
  obtain ⟨a,vs,rfl,h,t⟩:=r1.tup_inv
  exact ⟨a,vs,rfl,.inr (h.mono s),fun l hl=>q _ _ _ (.new s hl) (.lst aS (t.mono (.into (s.free hl))))⟩
 ·cases e
end
noncomputable def ItOk (K:PySem.W.Frag) (G₁:Hp) (J:It) (items:List D):Prop:=∀ (i:Nat) (G H:Hp),Same G₁ G->Same G H->
 (∀ d,items[i]?=some d->J.go i H/\∀ x H',J.yld i H x H'->∃ G',Up G H G' H'/\Rep K G' x d)/\(items.length<=i->J.stop i H)
noncomputable def QIF (X:Cx) (tg iter:Expr) (g:Ev->R (List D)):Prop:=PI X tg iter (tG X (fun G J items=>ItOk X.K G J items) g)
noncomputable def Its (x:Str):It:=⟨fun i _=>i<x.cps.size,fun i H v H'=>H'=H/\∃ c,x.cps[i]?=some c/\v=.str ⟨#[c]⟩,fun i _=>x.cps.size<=i⟩
section
variable {X:Cx} {tg a e:Expr} {ga:Ev->R D} {gl:Ev->R (List D)} {pos:Pos}
theorem wV {l:Addr} {Rr:It->Hp->Prop} (I:Inv X pins σ H s) (h:SqL X.K H l xs) (q:Rr (Itl X.K l) H) :
  wpAny (model X.prog X.w) X.A (pyIter (.ref l)) (PIE X pins σ tg Rr) X.xe s:=by
 obtain ⟨its,rv,p,hz⟩:=I.list h
 refine wpAny_pyIter_list p.isList ?_
 refine ⟨s.heap.objs.size,[s.heap.objs.size],_,_,H,rfl,I.kept (t':=s.toks) fun b o e=>Heap.get?_push_of_some _ e,xz l _,⟨_,Heap.get?_push_size _ rfl,rfl,rfl⟩,fun b hb=>?_,q⟩
 have e:b=s.heap.objs.size:=by simpa using hb
 subst e
 exact I.fpOk (Nat.le_refl _) (I.hok.fresh (Nat.le_refl _))
theorem EN {l:Addr} {Rr:It->Hp->Prop} (I:Inv X pins σ H s) (h:SqT X.K H l xs) (q:Rr (Itt X.K l) H) :
  wpAny (model X.prog X.w) X.A (pyIter (.ref l)) (PIE X pins σ tg Rr) X.xe s:=by
 obtain ⟨its,rv,p,hz⟩:=I.tuple h
 refine wpAny_pyIter_tuple (show s.heap.IsTuple l its.toArray from p) ?_
 refine ⟨s.heap.objs.size,[s.heap.objs.size],_,_,H,rfl,I.kept (t':=s.toks) fun b o e=>Heap.get?_push_of_some _ e,vV l _,⟨_,Heap.get?_push_size _ rfl,rfl,rfl⟩,fun b hb=>?_,q⟩
 have e:b=s.heap.objs.size:=by simpa using hb
 subst e
 exact I.fpOk (Nat.le_refl _) (I.hok.fresh (Nat.le_refl _))
theorem vK {w:World} {K:PySem.W.Frag} {tg:Expr} (it:Addr) (x:Str) (t:Tok):Turn P w K tg (Its x) [it] it (fun i h=>h.IsStrIter it "str_ascii_iterator" x t i) where
 mem:=by simp
 obj:=fun i h st b hb=>by
  have e:b=it:=by simpa using hb
  subst e
  obtain ⟨o,e,c,d⟩:=st
  exact ⟨o,e,fun v z=>by rw [d] at z;cases z⟩
 keep:=fun i h h' st k=>let ⟨o,ho,r⟩:=st;⟨o,k it (by simp) o ho,r⟩
 item:=by
  intro X hP hw hK hc i pins s σ H E I hf st hg
  subst hP hw hK
  have hg':i<x.cps.size:=hg
  obtain ⟨f0,f1,f2,f3,f4,f5⟩:=hf it (by simp)
  refine wpAny_pyNext_ascii_item st (c:=x.cps[i]) (by simp [hg']) fun h' st' sb=>?_
  have I1:Inv X pins σ H { s with heap:=h',toks:=s.toks+1 }:=I.turned (t':=s.toks+1) (fun b o hb e=>(sb.2 b hb).trans e) f0 f1 f3 f4 f5
  obtain ⟨o,e,c,d⟩:=id st'
  exact ⟨_,rfl,yi (s:={ s with heap:=h',toks:=s.toks+1 }) e c d (by decide) ⟨.str ⟨#[x.cps[i]]⟩,H,I1,⟨_,rfl⟩,⟨rfl,_,by simp [hg'],rfl⟩,st',fun b hb=>(hf b hb).1⟩⟩
 done:=by
  intro X hP hw hK hc i pins s σ H E I hf st hg
  subst hP hw hK
  obtain ⟨f0,f1,f2,f3,f4,f5⟩:=hf it (by simp)
  have hg':x.cps.size<=i:=hg
  exact wpAny_pyNext_ascii_end (I.ok.hd hc) st (by simp;omega) fun h' eb=>⟨rfl,I.turned (t':=s.toks) (fun b o hb e=>eb b o hb e) f0 f1 f3 f4 f5⟩
 self:=fun _ _ _ _ _ st h=>wpAny_pyIter_striter_ascii st h
theorem yp {w:World} {K:PySem.W.Frag} {tg:Expr} (it:Addr) (x:Str) (t:Tok):Turn P w K tg (Its x) [it] it (fun i h=>h.IsStrIter it "str_iterator" x t i) where
 mem:=by simp
 obj:=fun i h st b hb=>by
  have e:b=it:=by simpa using hb
  subst e
  obtain ⟨o,e,c,d⟩:=st
  exact ⟨o,e,fun v z=>by rw [d] at z;cases z⟩
 keep:=fun i h h' st k=>let ⟨o,ho,r⟩:=st;⟨o,k it (by simp) o ho,r⟩
 item:=by
  intro X hP hw hK hc i pins s σ H E I hf st hg
  subst hP hw hK
  have hg':i<x.cps.size:=hg
  obtain ⟨f0,f1,f2,f3,f4,f5⟩:=hf it (by simp)
  refine wpAny_pyNext_wide_item st (c:=x.cps[i]) (by simp [hg']) fun h' st' sb=>?_
  have I1:Inv X pins σ H { s with heap:=h',toks:=s.toks+1 }:=I.turned (t':=s.toks+1) (fun b o hb e=>(sb.2 b hb).trans e) f0 f1 f3 f4 f5
  obtain ⟨o,e,c,d⟩:=id st'
  exact ⟨_,rfl,yi (s:={ s with heap:=h',toks:=s.toks+1 }) e c d (by decide) ⟨.str ⟨#[x.cps[i]]⟩,H,I1,⟨_,rfl⟩,⟨rfl,_,by simp [hg'],rfl⟩,st',fun b hb=>(hf b hb).1⟩⟩
 done:=by
  intro X hP hw hK hc i pins s σ H E I hf st hg
  subst hP hw hK
  obtain ⟨f0,f1,f2,f3,f4,f5⟩:=hf it (by simp)
  have hg':x.cps.size<=i:=hg
  exact wpAny_pyNext_wide_end (I.ok.hd hc) st (by simp;omega) fun h' eb=>⟨rfl,I.turned (t':=s.toks) (fun b o hb e=>eb b o hb e) f0 f1 f3 f4 f5⟩
 self:=fun _ _ _ _ _ st h=>wpAny_pyIter_striter_wide st h
theorem EX {t:Tok} {Rr:It->Hp->Prop} (I:Inv X pins σ H s) (q:Rr (Its x) H) :
  wpAny (model X.prog X.w) X.A (pyIter (.str x t)) (PIE X pins σ tg Rr) X.xe s:=by
 have fp:∀ (o:Obj),∀ b∈[s.heap.objs.size],nP X pins H b:=fun o b hb=>by
  have e:b=s.heap.objs.size:=by simpa using hb
  subst e
  exact I.fpOk (Nat.le_refl _) (I.hok.fresh (Nat.le_refl _))
 cases ha:x.cps.all (· < 128)
 ·refine wpAny_pyIter_wide ha ⟨s.heap.objs.size,[s.heap.objs.size],_,_,H,rfl,I.kept (t':=s.toks) fun b o e=>Heap.get?_push_of_some _ e,yp _ x t,⟨_,Heap.get?_push_size _ rfl,rfl,rfl⟩,fp default,q⟩
 ·refine wpAny_pyIter_ascii ha ⟨s.heap.objs.size,[s.heap.objs.size],_,_,H,rfl,I.kept (t':=s.toks) fun b o e=>Heap.get?_push_of_some _ e,vK _ x t,⟨_,Heap.get?_push_size _ rfl,rfl,rfl⟩,fp default,q⟩
noncomputable def ca:D->R (List D)
 | .lst _ xs=>.ok xs
 | .tup xs=>.ok xs
 | .str x=>.ok (x.map fun c=>.str [c])
 | _=>.no
theorem ItOk.list {K:PySem.W.Frag} {l:Addr} (h:SqL K G l vs) (r:Reps K G vs ds):ItOk K G (Itl K l) ds:=by
 intro i G1 H1 s1 s2
 refine ⟨fun d e=>?_,fun hl=>⟨vs,(h.mono s1).mono s2,by rw [r.length];exact hl⟩⟩
 obtain ⟨v,ev,rv⟩:=r.get e
 refine ⟨⟨vs,v,(h.mono s1).mono s2,ev⟩,fun x H' y=>?_⟩
 obtain ⟨rfl,y⟩:=y
 have:=y vs ((h.mono s1).mono s2)
 rw [ev] at this
 cases this
 exact ⟨G1,.refl s2,rv.mono s1⟩
theorem ItOk.tup {K:PySem.W.Frag} {l:Addr} (h:SqT K G l vs) (r:Reps K G vs ds):ItOk K G (Itt K l) ds:=by
 intro i G1 H1 s1 s2
 refine ⟨fun d e=>?_,fun hl=>⟨vs,(h.mono s1).mono s2,by rw [r.length];exact hl⟩⟩
 obtain ⟨v,ev,rv⟩:=r.get e
 refine ⟨⟨vs,v,(h.mono s1).mono s2,ev⟩,fun x H' y=>?_⟩
 obtain ⟨rfl,y⟩:=y
 have:=y vs ((h.mono s1).mono s2)
 rw [ev] at this
 cases this
 exact ⟨G1,.refl s2,rv.mono s1⟩
theorem ItOk.str {K:PySem.W.Frag} (x:Str):ItOk K G (Its x) (x.cps.toList.map fun c=>.str [c]):=by
 intro i G1 H1 s1 s2
 refine ⟨fun d e=>?_,fun hl=>show x.cps.size<=i by simpa using hl⟩
 rw [List.getElem?_map] at e
 cases ec:x.cps.toList[i]? with
 | none=>rw [ec] at e;cases e
 | some c=>
  rw [ec] at e
  cases e
  have hi:i<x.cps.size:=by
   have:=(List.getElem?_eq_some_iff.mp ec).1
   simpa using this
  refine ⟨hi,fun v H' y=>?_⟩
  obtain ⟨rfl,c',e',rfl⟩:=y
  have:c'=c:=by
   have h2:x.cps.toList[i]?=x.cps[i]?:=by simp
   rw [h2,e'] at ec
   exact Option.some.inj ec
  subst this
  exact ⟨G1,.refl s2,.strL rfl Bn⟩
theorem ItOk.range {K:PySem.W.Frag} (lo:Int) (n:Nat):ItOk K G (Itr lo n) ((List.range n).map fun i=>.int (lo+(i:Nat))):=by
 intro i G1 H1 s1 s2
 refine ⟨fun d e=>?_,fun hl=>show n<=i by simpa using hl⟩
 rw [List.getElem?_map] at e
 by_cases hi:i<n
 ·rw [List.getElem?_range hi] at e
  cases e
  refine ⟨hi,fun v H' y=>?_⟩
  obtain ⟨rfl,rfl⟩:=y
  exact ⟨G1,.refl s2,.int _⟩
 ·rw [List.getElem?_eq_none (by simpa using hi)] at e
  cases e
theorem xY (ha:QF X a ga):QIF X tg a (fun ρ=>ga ρ>>=ca):=by
 intro pins s σ H Rr I h
 obtain ⟨G,ρ,st,h⟩:=h
 have t:tF X ga σ H (fun x H1=>∃ G1 d,Same G1 H1/\Rep X.K G1 x d/\(ca d).post (Fin G1 H1 (fun G J items=>ItOk X.K G J items) Rr) (Exx X σ G1 H1)):=
  tG.intro st h fun x v G1 H1 u1 st1 r1 h1=>⟨G1,x,st1.sub,r1,h1⟩
 refine thn (ha pins s σ H _ I t) fun v s1 ⟨x,H1,I1,r1,G1,d,sub,rd,h1⟩=>?_
 cases rd with
 | lst hh r=>cases r1;exact wV I1 (.of (sub _ _ hh)) (h1 _ G1 H1 (.refl sub) (.list (.of hh) r))
 | fls hh r=>cases r1;exact wV I1 (hh.mono sub) (h1 _ G1 H1 (.refl sub) (.list hh r))
 | tup hh r=>cases r1;exact EN I1 (hh.mono sub) (h1 _ G1 H1 (.refl sub) (.tup hh r))
 | str y hy=>obtain ⟨t,rfl⟩:=r1;exact EX I1 (h1 _ G1 H1 (.refl sub) (.str y))
 | _=>exact h1.elim
noncomputable def eO:List D->R (List D)
 | [.int j]=>if -(2 ^ 62)<=j/\j<2 ^ 62 then .ok ((List.range j.toNat).map fun i=>.int (0+(i:Nat))) else .no
 | _=>.no
noncomputable def iB:List D->R (List D)
 | [.int i,.int j]=>if -(2 ^ 62)<=i/\i<2 ^ 62/\-(2 ^ 62)<=j/\j<2 ^ 62 then .ok ((List.range (j - i).toNat).map fun k=>.int (i+(k:Nat))) else .no
 | _=>.no
theorem rV (hg:Gl X "range") (hm:X.mg "range"=none) (ha:QFA X [a] gl) (hs:starEach [a] X.env=[(false,eval a X.env)]:=by rfl):QIF X tg (.Call (.Name "range" p) [a] [] pos) (fun ρ=>gl ρ>>=eO):=by
 intro pins s σ H Rr I h
 refine yF hg hm ha hs pins s σ H Rr I ?_
 obtain ⟨G,ρ,st,h⟩:=h
 refine tG.intro st h fun ds vs G1 H1 u1 st1 r1 h1=>?_
 unfold eO at h1
 split at h1
 ·split at h1
  ·rename_i hj
   obtain ⟨v,rfl,r⟩:=r1.one
   obtain rfl:=r.int_inv
   exact ⟨_,rfl,hj.1,hj.2,h1 _ G1 H1 (.refl st1.sub) (.range 0 _)⟩
  ·exact h1.elim
 ·exact h1.elim
theorem qG {b:Expr} (hg:Gl X "range") (hm:X.mg "range"=none) (ha:QFA X [a,b] gl) (hs:starEach [a,b] X.env=[(false,eval a X.env),(false,eval b X.env)]:=by rfl) (hs2:starEach [b] X.env=[(false,eval b X.env)]:=by rfl) :
  QIF X tg (.Call (.Name "range" p) [a,b] [] pos) (fun ρ=>gl ρ>>=iB):=by
 intro pins s σ H Rr I h
 refine xE hg hm ha hs hs2 pins s σ H Rr I ?_
 obtain ⟨G,ρ,st,h⟩:=h
 refine tG.intro st h fun ds vs G1 H1 u1 st1 r1 h1=>?_
 unfold iB at h1
 split at h1
 ·split at h1
  ·rename_i hj
   obtain ⟨v,w,rfl,r,r'⟩:=r1.two
   obtain rfl:=r.int_inv
   obtain rfl:=r'.int_inv
   exact ⟨_,_,rfl,hj,h1 _ G1 H1 (.refl st1.sub) (.range _ _)⟩
  ·exact h1.elim
 ·exact h1.elim
end
noncomputable def ObSt (K:PySem.W.Frag) (H₀ G H:Hp) (σ:St) (ρ:Ev):Prop:=
 ∃ ow:kj,(∀ (i:Nat) ds l,ρ[i]?=some (some (.own ds))->σ[i]?=some (some (.ref l))->ow l=some (i,0))/\
  ∀ (i:Nat) m C p fs,ρ[i]?=some (some (.obj m C p fs))->σ[i]?=some (some (.ref p))/\ObjAt K H₀ G H ow i m C p fs
theorem ObSt.rd {K:PySem.W.Frag} {H₀:Hp} (h:ObSt K H₀ G H σ ρ):∀ (i:Nat) m C p fs,ρ[i]?=some (some (.obj m C p fs))->σ[i]?=some (some (.ref p))/\∃ ow,ObjAt K (fun _=>none) G H ow i m C p fs:=fun i m C p fs e=>by
 obtain ⟨ow,_,o2⟩:=h
 exact ⟨(o2 i m C p fs e).1,ow,(o2 i m C p fs e).2.rd⟩
noncomputable def NoOwn (ρ:Ev):Prop:=∀ (j:Nat) (x:Sl),ρ[j]?=some (some x)->∃ d,x=.val d
theorem NoOwn.own (h:NoOwn ρ) (j:Nat) (ds:List D):ρ[j]? ≠ some (some (.own ds)):=fun e=>by obtain ⟨d,z⟩:=h j _ e;cases z
theorem NoOwn.obj (h:NoOwn ρ) (j:Nat) (m:Bool) (C p:Addr) (fs:List (Nat×Fd)):ρ[j]? ≠ some (some (.obj m C p fs)):=fun e=>by obtain ⟨d,z⟩:=h j _ e;cases z
theorem NoOwn.ob {K:PySem.W.Frag} {H₀:Hp} (h:NoOwn ρ):ObSt K H₀ G H σ ρ:=
 ⟨fun _=>none,fun i ds l e=>absurd e (h.own i ds),fun i m C p fs e=>absurd e (h.obj i m C p fs)⟩
structure StR (K:PySem.W.Frag) (G₀ H₀ G H:Hp) (σ:St) (ρ:Ev):Prop where
 e:StE K G H σ ρ
 sub0:Same G₀ H₀
 up:Up G₀ H₀ G H
 own:∀ (i:Nat) ds,ρ[i]?=some (some (.own ds))->∃ l vs,σ[i]?=some (some (.ref l))/\H l=some (.lst vs)/\G l=none/\H₀ l=none/\Reps K G vs ds
 inj:∀ (i j:Nat) ds es l,ρ[i]?=some (some (.own ds))->ρ[j]?=some (some (.own es))->σ[i]?=some (some (.ref l))->σ[j]?=some (some (.ref l))->i=j
 ob:ObSt K H₀ G H σ ρ
section
variable {K:PySem.W.Frag} {G₀ H₀ G H G' H':Hp} {σ:St} {ρ:Ev}
theorem StR.ups (s:StR K G₀ H₀ G H σ ρ) (u:Up G H G' H'):StR K G₀ H₀ G' H' σ ρ:=⟨s.e.up u,s.sub0,s.up.trans u,(fun i ds e=>by
 obtain ⟨l,vs,h1,h2,h3,h4,h5⟩:=s.own i ds e
 refine ⟨l,vs,h1,u.hh _ _ h2,?_,h4,h5.mono u.gg⟩
 cases q:G' l with
 | none=>rfl
 | some o=>
  rcases u.fr l o q with z|z
  ·rw [h3] at z;cases z
  ·rw [h2] at z;cases z),s.inj,by
 obtain ⟨ow,o1,o2⟩:=s.ob
 exact ⟨ow,o1,fun i m C p fs e=>⟨(o2 i m C p fs e).1,(o2 i m C p fs e).2.keep (.up u)⟩⟩⟩
theorem StR.set (s:StR K G₀ H₀ G H σ ρ) (r:Rep K G v d) (i:Nat):StR K G₀ H₀ G H (σ.set i (some v)) (ρ.set i (some (.val d))):=by
 have get:∀ (j:Nat) x,(ρ.set i (some (.val d)))[j]?=some (some x)->(j=i/\x=.val d/\i<σ.length)\/(j≠i/\ρ[j]?=some (some x)/\(σ.set i (some v))[j]?=σ[j]?):=fun j x h=>by
  by_cases e:i=j
  ·subst e
   have hl:i<ρ.length:=by
    have:=(List.getElem?_eq_some_iff.mp h).1
    simpa using this
   rw [List.getElem?_set_self hl] at h
   exact .inl ⟨rfl,by injection (Option.some.inj h) with q;exact q.symm,by rw [s.e.len];exact hl⟩
  ·rw [List.getElem?_set_ne e] at h
   exact .inr ⟨fun z=>e z.symm,h,List.getElem?_set_ne e⟩
 have ob:ObSt K H₀ G H (σ.set i (some v)) (ρ.set i (some (.val d))):=by
  obtain ⟨ow,o1,o2⟩:=s.ob
  refine ⟨ow,fun j ds l h1 h2=>?_,fun j m C p fs h1=>?_⟩
  ·rcases get j _ h1 with ⟨_,e,_⟩|⟨_,e,e'⟩
   ·cases e
   ·exact o1 j ds l e (e' ▸ h2)
  ·rcases get j _ h1 with ⟨_,e,_⟩|⟨_,e,e'⟩
   ·cases e
   ·rw [e'];exact o2 j m C p fs e
 refine ⟨⟨s.e.sub,by simp [s.e.len],fun j d' h=>?_,ob.rd⟩,s.sub0,s.up,fun j ds h=>?_,fun j k ds es l h1 h2 h3 h4=>?_,ob⟩
 ·rcases get j _ h with ⟨rfl,e,hl⟩|⟨_,e,e'⟩
  ·cases e
   exact ⟨v,List.getElem?_set_self hl,r⟩
  ·rw [e'];exact s.e.val j d' e
 ·rcases get j _ h with ⟨_,e,_⟩|⟨_,e,e'⟩
  ·cases e
  ·rw [e'];exact s.own j ds e
 ·rcases get j _ h1 with ⟨_,e,_⟩|⟨_,e,e'⟩
  ·cases e
  ·rcases get k _ h2 with ⟨_,f,_⟩|⟨_,f,f'⟩
   ·cases f
   ·exact s.inj j k ds es l e f (e' ▸ h3) (f' ▸ h4)
end
noncomputable def PGF (X:Cx) (tg:Expr) (asg:D->Ev->R Ev):Prop:=PG X tg (fun v σ H Q=>∃ G₀ H₀ G ρ d ρ',StR X.K G₀ H₀ G H σ ρ/\Rep X.K G v d/\asg d ρ=.ok ρ'/\∀ σ',StR X.K G₀ H₀ G H σ' ρ'->Q σ' H)
section
variable {X:Cx} {pos:Pos}
noncomputable def jA (i:Nat):D->Ev->R Ev:=fun d ρ=>.ok (ρ.set i (some (.val d)))
theorem cw (i:Nat) (hN:X.N.Nodup) (hi:X.N[i]?=some x:=by rfl) (hx:Loc X.env.scope x:=by first|exact Or.inl rfl|exact Or.inr rfl)
 (hf:X.fn x=true\/X.env.scope.names.lookup x=some .local:=by first|exact .inl rfl|exact .inr rfl):PGF X (.Name x pos) (jA i):=by
 intro pins s σ H v u Q I r h
 obtain ⟨G₀,H₀,G,ρ,d,ρ',st,rd,e,q⟩:=h
 cases e
 exact jH hN hi hx hf pins s σ H v u Q I r (q _ (st.set rd i))
end
noncomputable def zp (K:PySem.W.Frag) (G H:Hp) (Q:VK):List D->Prop:=fun ds=>∀ l vs G' H',Up G H G' H'->H' l=none->Reps K G' vs ds->Q (.ref l) (upd H' l (.lst vs))
noncomputable def tL (X:Cx) (g:Ev->R (List D)):TE:=fun σ H Q=>∃ G ρ,StE X.K G H σ ρ/\(g ρ).post (zp X.K G H Q) (Exx X σ G H)
noncomputable def QFL (X:Cx) (e:Expr) (g:Ev->R (List D)):Prop:=PE X e (tL X g)
theorem nJ {e:Expr} {g:Ev->R (List D)} (h:QFL X e g):QF X e (fun ρ=>g ρ>>=fun ds=>.ok (.lst false ds)):=by
 intro pins s σ H Q I hq
 refine h pins s σ H Q I ?_
 obtain ⟨G,ρ,st,hq⟩:=hq
 try dsimp only at hq
 refine ⟨G,ρ,st,?_⟩
 cases e:g ρ with
 | ok ds=>
  rw [e] at hq
  intro l vs G' H' u hl r
  exact hq _ _ _ (u.trans (.new u.sub hl)) (.lst aS (r.mono (.into (u.sub.free hl))))
 | ex C=>rw [e] at hq;exact hq
 | no=>rw [e] at hq;exact hq
theorem yG (h:QFA X es gl):QFL X (.List es pos) (fun ρ=>gl ρ>>=fun ds=>if ds.length<=sizeLine then .ok ds else .no):=by
 intro pins s σ H Q I hq
 refine Fw h pins s σ H Q I ?_
 obtain ⟨G,ρ,st,hq⟩:=hq
 try dsimp only at hq
 refine ⟨G,ρ,st,?_⟩
 cases e:gl ρ with
 | ok ds=>
  rw [e] at hq
  intro vs G' H' u r
  simp only [R.ok_bind] at hq
  split at hq
  ·rename_i hz
   exact ⟨by rw [r.length];exact hz,fun p hp=>hq p vs G' H' u hp r⟩
  ·exact hq.elim
 | ex C=>rw [e] at hq;exact hq
 | no=>rw [e] at hq;exact hq
noncomputable def vH (env:Env):List (Str×NameKind)->List (Str×Addr)->List (Str×Addr)
 | [],cs=>cs
 | (n,k)::r,cs=>vH env r (if (k==.free)=true then (match env.cells.lookup n with|some c=>(n,c)::cs|none=>cs) else cs)
theorem vE {env:Env} {F:Str×NameKind->List (Str×Addr)->Sem (ForInStep (List (Str×Addr)))}
  (hF:∀ n k r,(k=NameKind.free->∃ c,env.cells.lookup n=some c)->F (n,k) r=pure (ForInStep.yield (if (k==.free)=true then (match env.cells.lookup n with|some c=>(n,c)::r|none=>r) else r))) :
  ∀ (l:List (Str×NameKind)) (cs:List (Str×Addr)),(∀ x∈l,x.2=.free->∃ c,env.cells.lookup x.1=some c)->forIn l cs F=pure (vH env l cs)
 | [],cs,_=>rfl
 | (n,k)::l,cs,h=>by
  rw [List.forIn_cons,hF n k cs (h (n,k) List.mem_cons_self),pure_bind]
  exact vE hF l _ fun y hy=>h y (List.mem_cons_of_mem _ hy)
theorem oS {env:Env} (h:∀ x∈scope.names,x.2=.free->∃ c,env.cells.lookup x.1=some c):closureFor scope env=pure (vH env scope.names []):=by
 simp only [closureFor]
 rw [vE (env:=env) (fun n k r hk=>?_) scope.names [] h]
 ·rfl
 ·by_cases hf:(k==NameKind.free)=true
  ·obtain ⟨c,hc⟩:=hk (by simpa using hf)
   simp only [hf,if_true,cellOf,hc,pure_bind]
  ·simp only [hf,if_false]
   rfl
theorem vz {env:Env}:∀ (l:List (Str×NameKind)) (cs:List (Str×Addr)),(∀ x c,cs.lookup x=some c->env.cells.lookup x=some c)->∀ x c,(vH env l cs).lookup x=some c->env.cells.lookup x=some c
 | [],cs,h,x,c,e=>h x c e
 | (n,k)::l,cs,h,x,c,e=>by
  unfold vH at e
  refine vz l _ (fun y d ed=>?_) x c e
  split at ed
  ·split at ed
   ·rename_i c' hc'
    rw [List.lookup_cons] at ed
    split at ed
    ·rename_i q;rw [eq_of_beq q];rw [<- Option.some.inj ed];exact hc'
    ·exact h y d ed
   ·exact h y d ed
  ·exact h y d ed
theorem pc {env:Env}:∀ (l:List (Str×NameKind)) (cs:List (Str×Addr)) (x:Str),((∃ c,cs.lookup x=some c)\/((x,NameKind.free)∈l/\∃ c,env.cells.lookup x=some c))->∃ c,(vH env l cs).lookup x=some c
 | [],cs,x,h=>by
  rcases h with h|⟨h,_⟩
  ·exact h
  ·cases h
 | (n,k)::l,cs,x,h=>by
  unfold vH
  refine pc l _ x ?_
  rcases h with ⟨c,h⟩|⟨h,c,hc⟩
  ·left
   split
   ·split
    ·rename_i c' _
     rw [List.lookup_cons]
     split
     ·exact ⟨_,rfl⟩
     ·exact ⟨c,h⟩
    ·exact ⟨c,h⟩
   ·exact ⟨c,h⟩
  ·rcases List.mem_cons.mp h with e|h
   ·cases e
    left
    rw [if_pos (by rfl),hc]
    exact ⟨c,by simp [List.lookup_cons]⟩
   ·exact .inr ⟨h,c,hc⟩
noncomputable def cE (X:Cx) (N':List Str) (scope:Scope) (C:Addr) (s₂:Shared) (H₂:Hp) (fp:List Addr):Cx:=
 { X with N:=N',s₀:=s₂,H₀:=H₂,env:=compEnvC scope (vH X.env scope.names []) C X.env,outer:=X.stack,stack:=X.stack,ex:=fp,fn:=fun _=>false,pn:=[],xe:=fun _ _=>False }
noncomputable def gh {α:Type}:R α->R α
 | .ok a=>.ok a
 | _=>.no
noncomputable def jI (ix:List Nat) (ρ:Ev):Ev:=none::ix.map fun (i:Nat)=>match ρ[i]? with
 | some (some (.val d))=>some (.val d)
 | _=>none
noncomputable def iq (n:Nat) (ix:List Nat) (ρ:Ev):Ev:=List.replicate n none++ix.map fun (i:Nat)=>match ρ[i]? with
 | some (some (.val d))=>some (.val d)
 | _=>none
noncomputable def gD (asg:D->Ev->R Ev) (gt:Ev->R Bool) (ge:Ev->R D):List D->Ev->R (List D)
 | [],_=>.ok []
 | d::ds,ρ=>gh (asg d ρ)>>=fun ρ1=>gh (gt ρ1)>>=fun k=>if k=true then gh (ge ρ1)>>=fun x=>gD asg gt ge ds ρ1>>=fun xs=>.ok (x::xs) else gD asg gt ge ds ρ1
noncomputable def fZ (gt:Ev->R Bool) (ge:Ev->R D):List D->Ev->R (List D):=gD (jA 0) gt ge
theorem jU {asg:D->Ev->R Ev} {gt:Ev->R Bool} {ge:Ev->R D}:∀ (ds:List D) (ρ:Ev),(∃ xs,gD asg gt ge ds ρ=.ok xs)\/gD asg gt ge ds ρ=.no
 | [],ρ=>.inl ⟨[],rfl⟩
 | d::ds,ρ=>by
  unfold gD
  cases asg d ρ with
  | ok ρ1=>
   simp only [gh,R.ok_bind]
   cases gt ρ1 with
   | ok k=>
    simp only [gh,R.ok_bind]
    cases k with
    | true=>
     simp only [if_true]
     cases ge ρ1 with
     | ok x=>
      simp only [gh,R.ok_bind]
      rcases jU (asg:=asg) ds ρ1 with ⟨xs,e⟩|e
      ·rw [e];exact .inl ⟨_,rfl⟩
      ·rw [e];exact .inr rfl
     | ex C=>exact .inr rfl
     | no=>exact .inr rfl
    | false=>simp only [Bool.false_eq_true,if_false];exact jU ds _
   | ex C=>exact .inr rfl
   | no=>exact .inr rfl
  | ex C=>exact .inr rfl
  | no=>exact .inr rfl
noncomputable def jl (gi:Ev->R (List D)) (ix:List Nat) (gt:Ev->R Bool) (ge:Ev->R D):Ev->R (List D):=fun ρ=>gi ρ>>=fun items=>fZ gt ge items (jI ix ρ)>>=fun ds=>if ds.length<=sizeLine then .ok ds else .no
noncomputable def Ey (n:Nat) (asg:D->Ev->R Ev) (gi:Ev->R (List D)) (ix:List Nat) (gt:Ev->R Bool) (ge:Ev->R D):Ev->R (List D):=fun ρ=>gi ρ>>=fun items=>gD asg gt ge items (iq n ix ρ)>>=fun ds=>if ds.length<=sizeLine then .ok ds else .no
noncomputable def PTs (X:Cx) (ifs:List Expr) (gt:Ev->R Bool):Prop:=∀ (pins:List (Addr×Obj)) (s:Shared) (σ:St) (H:Hp) (Q:Bool->Hp->Prop),Inv X pins σ H s->tTF X gt σ H Q->
 wpAny (model X.prog X.w) X.A (forIn ifs true fun c r=>if r=true then do let ok <- isTrue c X.env (eval c X.env);pure (ForInStep.yield ok) else pure (ForInStep.yield r)) (TP X pins σ Q) X.xe s
theorem mI:PTs X [] (fun _=>.ok true):=by
 intro pins s σ H Q I h
 obtain ⟨G,ρ,st,h⟩:=h
 exact wpAny_pure ⟨H,I,h true G H (.refl st.sub) rfl⟩
theorem Un.sameBut {fs ex:List Addr} {h1 h2:Heap} (u:Un fs ex H H' h h1) (k:∀ b o,b≠C->h1.get? b=some o->h2.get? b=some o) (hC:h.objs.size<=C):Un fs ex H H' h h2:=by
 have ne:∀ b o,h.get? b=some o->b≠C:=fun b o e=>Nat.ne_of_lt (Nat.lt_of_lt_of_le (Heap.lt_size e) hC)
 exact ⟨fun b o e n hb hx=>k b o (ne b o e) (u.keep b o e n hb hx),fun b o e n hb hx=>let ⟨sl,q⟩:=u.slot b o e n hb hx;⟨sl,k b _ (ne b o e) q⟩,u.free,fun b o e hx=>let ⟨o',q⟩:=u.there b o e hx;⟨o',k b o' (ne b o e) q⟩,u.tups,u.frzs,u.tbls⟩
theorem HOk.sameBut {w:World} (x:HOk P w H h) (k:∀ b o,b≠C->h.get? b=some o->h'.get? b=some o) (hC:H C=none):HOk P w H h':=fun a o e=>by
 refine (x a o e).stay (fun b u hb q=>k b u ?_ q) (fun _ z=>z) (fun _ _ z=>z)
 rcases hb with rfl|hb
 ·exact aF e hC
 ·exact aF hb hC
section
variable {X:Cx} {elt iter:Expr} {ifs:List Expr} {x:Str} {px pos:Pos} {scope:Scope} {N':List Str} {ix:List Nat} {gi:Ev->R (List D)} {gt:Ev->R Bool} {ge:Ev->R D}
structure CompOk (X:Cx) (scope:Scope) (x:Str) (N':List Str) (ix:List Nat):Prop where
 kind:scope.kind=.function
 cell:∀ y∈scope.names,y.2 ≠ .cell
 names:∀ y∈scope.names,y.2=.local->scope.names.lookup y.1=some .local
 loc:scope.names.lookup x=some .local
 fr:∀ y∈scope.names,y.2=.free->X.env.kindOf y.1=some .cell
 nd:N'.Nodup
 hd:N'[0]?=some x
 tl:N'.tail=ix.map fun (i:Nat)=>X.N.getD i Str.empty
 lt:∀ i∈ix,i<X.N.length
 fre:∀ y∈N'.tail,scope.names.lookup y=some .free/\(y,NameKind.free)∈scope.names
structure CompOkT (X:Cx) (scope:Scope) (n:Nat) (N':List Str) (ix:List Nat):Prop where
 kind:scope.kind=.function
 cell:∀ y∈scope.names,y.2 ≠ .cell
 names:∀ y∈scope.names,y.2=.local->scope.names.lookup y.1=some .local
 fr:∀ y∈scope.names,y.2=.free->X.env.kindOf y.1=some .cell
 le:n<=N'.length
 tl:N'.drop n=ix.map fun (i:Nat)=>X.N.getD i Str.empty
 lt:∀ i∈ix,i<X.N.length
 fre:∀ y∈N'.drop n,scope.names.lookup y=some .free/\(y,NameKind.free)∈scope.names
theorem CompOk.t (ok:CompOk X scope x N' ix):CompOkT X scope 1 N' ix:=
 ⟨ok.kind,ok.cell,ok.names,ok.fr,(List.getElem?_eq_some_iff.mp ok.hd).1,List.drop_one ▸ ok.tl,ok.lt,List.drop_one ▸ ok.fre⟩
theorem kA {env:Env} (hk:env.scope.kind=.function):∀ {names:List (Str×NameKind)} {x:Str},names.lookup x=some .free->env.kindOf x=some .cell->
  (names.map fun (n,k)=>if (k==NameKind.free && env.scope.kind==.function && env.kindOf n==some .cell) then (n,NameKind.cell) else (n,k)).lookup x=some .cell
 | [],_,h,_=>by simp at h
 | (n,k)::r,x,h,hc=>by
  have ih:=@kA env hk r x
  show List.lookup x ((if (k==NameKind.free && env.scope.kind==.function && env.kindOf n==some .cell)=true then (n,NameKind.cell) else (n,k))::_)=_
  cases hx:x==n with
  | true=>
   simp only [List.lookup_cons,hx] at h
   cases h
   have e:=eq_of_beq hx
   subst e
   rw [if_pos (by rw [hk,hc];rfl)]
   simp [List.lookup_cons]
  | false=>
   simp only [List.lookup_cons,hx] at h
   by_cases hc':(k==NameKind.free && env.scope.kind==.function && env.kindOf n==some .cell)=true
   ·rw [if_pos hc'];simp only [List.lookup_cons,hx];exact ih h hc
   ·rw [if_neg hc'];simp only [List.lookup_cons,hx];exact ih h hc
theorem xK {n:Nat} (h:(iq n ix ρ)[j]?=some (some (.val d))):∃ k i,j=k+n/\ix[k]?=some i/\ρ[i]?=some (some (.val d)):=by
 unfold iq at h
 by_cases hj:j<n
 ·rw [List.getElem?_append_left (by simpa using hj),List.getElem?_replicate,if_pos hj] at h;cases h
 ·rw [List.getElem?_append_right (by simpa using Nat.not_lt.1 hj),List.length_replicate,List.getElem?_map] at h
  cases e:ix[j - n]? with
  | none=>rw [e] at h;cases h
  | some i=>
   rw [e] at h
   refine ⟨j - n,i,by omega,e,?_⟩
   simp only [Option.map_some,Option.some.injEq] at h
   split at h
   ·rename_i d' e';cases h;exact e'
   ·cases h
noncomputable def gK (n:Nat) (ix:List Nat) (σ:St):St:=List.replicate n none++ix.map fun (i:Nat)=>(σ[i]?).join
theorem mJ {n:Nat}:NoOwn (iq n ix ρ):=fun j x h=>by
 unfold iq at h
 by_cases hj:j<n
 ·rw [List.getElem?_append_left (by simpa using hj),List.getElem?_replicate,if_pos hj] at h;cases h
 ·rw [List.getElem?_append_right (by simpa using Nat.not_lt.1 hj),List.length_replicate,List.getElem?_map] at h
  cases e:ix[j - n]? with
  | none=>rw [e] at h;cases h
  | some i=>
   rw [e] at h
   simp only [Option.map_some,Option.some.injEq] at h
   split at h
   ·cases h;exact ⟨_,rfl⟩
   ·cases h
theorem uC {K:PySem.W.Frag} (st:StE K G H σ ρ) (n:Nat) (ix:List Nat):StE K G H (gK n ix σ) (iq n ix ρ):=by
 refine ⟨st.sub,by simp [iq,gK],fun j d h=>?_,fun j m C p fs h=>absurd h (NoOwn.obj mJ j m C p fs)⟩
 obtain ⟨k,i,rfl,e1,e2⟩:=xK h
 obtain ⟨v,h1,h2⟩:=st.val i d e2
 refine ⟨v,?_,h2⟩
 unfold gK
 rw [List.getElem?_append_right (by simp),List.length_replicate,Nat.add_sub_cancel,List.getElem?_map,e1]
 simp [h1]
theorem AA {h₁:Heap} {tk:Nat} {m:Str->Option Value} {n:Nat} (ok:CompOkT X scope n N' ix) (hcalm:X.calm=true) (I:Inv X pins σ H s) (hf:∀ b∈fp,nP X pins H b) (hfl:∀ b∈fp,b<s.heap.objs.size)
 (hC:s.heap.objs.size<=C) (hn:h₁.Ns C m) (old:∀ b o,s.heap.get? b=some o->h₁.get? b=some o) (un:Un (frs X.stack) fp H H' s.heap h₁) (hok:HOk X.prog X.w H' h₁) (hfC:H' C=none) (hfc:∀ c:Addr,c<s.heap.objs.size->H c=none->H' c=none) :
  Inv (cE X N' scope C s H fp) [] (gK n ix σ) H' { s with heap:=h₁,toks:=tk }:=by
 have cl:∀ y c,(vH X.env scope.names []).lookup y=some c->X.env.cells.lookup y=some c:=vz scope.names [] (fun y c h=>by simp at h)
 have nlt:N'.length=n+ix.length:=by
  have h1:=congrArg List.length ok.tl
  rw [List.length_drop,List.length_map] at h1
  have:=ok.le
  omega
 refine ⟨⟨I.ok.mod,by show (relabel scope X.env).kind=_;exact ok.kind,I.ok.glob,I.ok.blt,hC,?_,?_,?_,I.ok.hd,I.ok.frames,.inl rfl,?_,I.bs,Nat.le_trans I.ok.bsz I.sz,?_,?_,I.stack,I.stkFree,I.ok.tabs.un I.base⟩,rfl,I.bare,un,?_,?_,hfC,?_,?_,hok,?_⟩
 ·intro y z c h1 h2
  exact I.ok.inj y z c (cl y c h1) (cl z c h2)
 ·intro y hy
  have h1:(y,NameKind.free)∈scope.names:=by
   have hy':(relabel scope X.env).names.lookup y=some .cell\/(relabel scope X.env).names.lookup y=some .free:=hy
   have mem:∀ k,(relabel scope X.env).names.lookup y=some k->(k=.cell\/k=.free)->(y,NameKind.free)∈scope.names:=fun k e hk=>by
    have hm:=PySem.mem_of_lookup e
    obtain ⟨⟨n,k'⟩,hm1,hm2⟩:=List.mem_map.mp hm
    dsimp only at hm2
    split at hm2
    ·rename_i hc
     cases hm2
     have:k'=.free:=by
      have:=(Bool.and_eq_true _ _ ▸ (Bool.and_eq_true _ _ ▸ hc).1).1
      simpa using this
     rw [<- this];exact hm1
    ·cases hm2
     rcases hk with rfl|rfl
     ·exact absurd rfl (ok.cell _ hm1)
     ·exact hm1
   rcases hy' with h|h
   ·exact mem _ h (.inl rfl)
   ·exact mem _ h (.inr rfl)
  have hc:=I.ok.has y (.inl (ok.fr _ h1 rfl))
  exact pc scope.names [] y (.inr ⟨h1,hc⟩)
 ·intro y c hfn;cases hfn
 ·intro b hb
  obtain ⟨f0,f1,f2,f3,f4,f5⟩:=hf b hb
  exact ⟨fun z=>absurd (hfl b hb) (by rw [z];exact Nat.not_lt.mpr hC),fun y c h=>f4 y c (cl y c h)⟩
 ·intro b o e hb
  obtain ⟨f0,f1,f2,f3,f4,f5⟩:=hf b hb
  rcases f3 with f3|f3
  ·exact I.ok.noex b o e f3
  ·exact absurd (Heap.lt_size (I.ok.bs b o e).1) (Nat.not_lt.mpr f3)
 ·intro b hb hb'
  obtain ⟨f0,f1,f2,f3,f4,f5⟩:=hf b hb
  rcases List.mem_cons.mp (I.stkSub b hb') with e|e
  ·exact f1 e
  ·exact f2 e
 ·refine ⟨m,hn,fun i y v h1 h2 h3=>?_⟩
  have h1:N'[i]?=some y:=h1
  have h2:(gK n ix σ)[i]?=some (some v):=h2
  by_cases hi:i<n
  ·unfold gK at h2
   rw [List.getElem?_append_left (by simpa using hi),List.getElem?_replicate,if_pos hi] at h2;cases h2
  ·unfold gK at h2
   rw [List.getElem?_append_right (by simpa using Nat.not_lt.1 hi),List.length_replicate,List.getElem?_map] at h2
   cases e:ix[i - n]? with
   | none=>rw [e] at h2;cases h2
   | some i0=>
    rw [e] at h2
    have h2':σ[i0]?=some (some v):=by
     cases q:σ[i0]? with
     | none=>rw [Option.map_some,q] at h2;cases h2
     | some z=>rw [Option.map_some,q] at h2;have:=Option.some.inj h2;rw [<- this];rfl
    have ht:(N'.drop n)[i - n]?=some y:=by rw [List.getElem?_drop,Nat.add_sub_cancel' (Nat.not_lt.1 hi)];exact h1
    have hy:X.N[i0]?=some y:=by
     have ht2:=ht
     rw [ok.tl,List.getElem?_map,e] at ht2
     have hl:=ok.lt i0 (List.mem_of_getElem? e)
     have q:=Option.some.inj ht2
     rw [List.getElem?_eq_getElem hl]
     rw [<- q]
     show some X.N[i0]=some (X.N.getD i0 Str.empty)
     rw [List.getD_eq_getElem?_getD,List.getElem?_eq_getElem hl]
     rfl
    obtain ⟨fr1,fr2⟩:=ok.fre y (List.mem_of_getElem? ht)
    have kc:=ok.fr _ fr2 rfl
    obtain ⟨m0,hn0,hl⟩:=I.loc
    obtain ⟨u,ru,lk⟩:=hl i0 y v hy h2' (.inr (.inl kc))
    refine ⟨u,ru,.inr ⟨.inl (kA I.ok.kind fr1 kc),?_⟩⟩
    rcases lk with ⟨z,_⟩|⟨_,c,hc,hcell⟩
    ·rw [kc] at z;cases z
    ·obtain ⟨c',hc'⟩:=pc scope.names [] y (.inr ⟨fr2,c,hc⟩)
     have:=cl y c' hc'
     rw [hc] at this
     cases this
     exact ⟨c,hc',hcell.keeps old⟩
 ·intro y c h
  obtain ⟨v,q⟩:=I.cell y c (cl y c h)
  exact ⟨v,q.keeps old⟩
 ·intro y c h
  obtain ⟨v,q⟩:=I.cell y c (cl y c h)
  exact hfc c q.lt (I.freeC y c (cl y c h))
 ·intro p hp
  exact absurd (show p∈([]:List (Addr×Obj)) from hp) (by simp)
 ·show (gK n ix σ).length=N'.length
  rw [nlt];simp [gK]
theorem wo {prog:Program} {w:World} {A:Around} {R':Result->Shared->Prop} {elt target:Expr} {ifs:List Expr} {it acc:Value} {env:Env} (I:Nat->Shared->Prop)
 (turn:∀ n s,I n s->wpAny (model prog w) A (pyNext it) (fun r s₁=>match r with
 | none=>R' (.ok .next) s₁
 | some v=>wpAny (model prog w) A (letOwnedTupleGo target it v) (fun _ s₁'=>wpAny (model prog w) A (assign target env v) (fun _ s₂=>
 wpAny (model prog w) A (forIn ifs true fun c r=>if r=true then do let ok <- isTrue c env (eval c env);pure (ForInStep.yield ok) else pure (ForInStep.yield r)) (fun ok s₃=>
 if ok=true then wpAny (model prog w) A (eval elt env) (fun x s₄=>
 wpAny (model prog w) A (call (.builtin "list.append") [acc,x]) (fun _ s₅=>∃ m,m<n/\I m s₅) (fun _ _=>False) s₄) (fun _ _=>False) s₃
 else ∃ m,m<n/\I m s₃) (fun _ _=>False) s₂) (fun _ _=>False) s₁') (fun _ _=>False) s₁) (fun _ _=>False) s)
 (n:Nat) (h:I n s) :
  codeAny (model prog w) A (.compLoop (.ListComp elt [⟨target,iter,ifs,0⟩] scope pos) 0 it acc env) R' s:=by
 refine codeAny_loop rfl I (fun n s hI=>?_) n h
 show wpAny _ A ((compTurn (.ListComp elt [⟨target,iter,ifs,0⟩] scope pos) 0 it acc env).onRaise (fun x=>do noteFrame x env;theTreesLotGoes x)) _ _ s
 refine wpAny_noted ?_
 rw [compTurn_list]
 refine wpAny_bind (wpAny_standAt (wpAny_bind (wpAny_mono (turn n s hI) (fun r s₁ h₁=>?_) fun _ _ z=>z.elim)))
 cases r with
 | none=>exact wpAny_pure h₁
 | some v=>
  refine wpAny_bind (wpAny_mono h₁ (fun _ s₁' h₁'=>?_) fun _ _ z=>z.elim)
  refine wpAny_bind (wpAny_mono h₁' (fun _ s₂ h₂=>wpAny_bind (wpAny_mono h₂ (fun ok s₃ h₃=>?_) fun _ _ z=>z.elim)) fun _ _ z=>z.elim)
  cases ok with
  | false=>exact wpAny_pure ⟨rfl,h₃⟩
  | true=>
   exact wpAny_bind (wpAny_bind (wpAny_mono h₃ (fun x s₄ h₄=>wpAny_bind (wpAny_mono h₄ (fun _ s₅ h₅=>wpAny_pure (wpAny_pure ⟨rfl,h₅⟩)) fun _ _ z=>z.elim)) fun _ _ z=>z.elim))
theorem Ap:∀ d ρ ρ',jA i d ρ=.ok ρ'->NoOwn ρ->NoOwn ρ':=by
 intro d ρ ρ' e h j x q
 have e':ρ.set i (some (.val d))=ρ':=R.ok.inj e
 rw [<- e',List.getElem?_set] at q
 split at q
 ·split at q
  ·cases q;exact ⟨d,rfl⟩
  ·cases q
 ·exact h j x q
theorem pQ {tgt : Expr} {n : Nat} {tn : Nat -> Heap -> Prop} {J : It} {items : List D} {Q : VK} {RR : Value -> Addr -> Result -> Shared -> Prop} {E : Value -> Shared -> Prop} (ok : CompOkT X scope n N' ix) (hcalm : X.calm = true) (hg : ∀ C s₂ H₂ fp, PGF (cE X N' scope C s₂ H₂ fp) tgt asg) (hown : ∀ d ρ ρ', asg d ρ = .ok ρ' -> (NoOwn ρ) -> NoOwn ρ')
 (he : ∀ C s₂ H₂ fp, QF (cE X N' scope C s₂ H₂ fp) elt ge) (ht : ∀ C s₂ H₂ fp, PTs (cE X N' scope C s₂ H₂ fp) ifs gt)
 (I : Inv X pins σ H s) (T : Turn X.prog X.w X.K tgt J fp it tn) (st0 : tn 0 s.heap) (hf : ∀ b ∈ fp, nP X pins H b) (st : StE X.K G H σ ρ) (hi : ItOk X.K G J items)
 (h : (gD asg gt ge items (iq n ix ρ) >>= fun ds => if ds.length <= sizeLine then R.ok ds else .no).post (zp X.K G H Q) (Exx X σ G H))
 (hR : ∀ (Dd C : Addr) (s' : Shared) (m : Str -> Option Value) (vs : List V) (G' H' : Hp), Up G H G' H' -> H' Dd = none -> C ≠ Dd -> (∀ ds, Reps X.K G' vs ds -> True) -> Q (.ref Dd) (upd H' Dd (.lst vs)) -> s'.heap.Ns C m -> s'.os = s.os -> AllBare s'.gens -> H' C = none -> s.heap.objs.size <= C ->
 Un (frs X.stack) fp H (upd H' Dd (.lst vs)) s.heap s'.heap -> HOk X.prog X.w (upd H' Dd (.lst vs)) s'.heap -> RR (.ref Dd) C (.ok .next) s') :
    wpAny (model X.prog X.w) X.A (newList []) (fun acc s₃ => wpAny (model X.prog X.w) X.A (newFunctionEnv scope X.env.globals (vH X.env scope.names []) [] X.env.qual none .none (some X.env)) (fun cenv s₄ =>
      codeAny (model X.prog X.w) X.A (.compStart (.ListComp elt [⟨tgt, iter, ifs, 0⟩] scope pos) 0 (.ref it) acc { cenv with scope := relabel scope X.env }) (RR acc cenv.locals) s₄) E s₃) E s := by
  have hfl : ∀ b ∈ fp, b < s.heap.objs.size := fun b hb => let ⟨o, e, _⟩ := T.obj 0 s.heap st0 b hb; Heap.lt_size e
  refine wpAny_newObj_type (wpAny_newFunctionEnv ok.cell (by intro y hy; simp at hy) (fun h₁ hns₁ hsb₁ => ?_) ok.kind)
  dsimp only at hns₁ hsb₁ ⊢
  generalize hH2 : s.heap.push { cls := .type "list", dict := none, data := .seq ([] : List Value).toArray } = Hq at hns₁ hsb₁ ⊢
  have hC : Hq.objs.size = s.heap.objs.size + 1 := by rw [<- hH2, Heap.size_push]
  have hDC : s.heap.objs.size ≠ Hq.objs.size := by rw [hC]; exact Nat.ne_of_lt (Nat.lt_succ_self _)
  have hCle : s.heap.objs.size <= Hq.objs.size := by rw [hC]; exact Nat.le_succ _
  have old : ∀ b o, s.heap.get? b = some o -> h₁.get? b = some o := fun b o e =>
    hsb₁.extBut b o (by rw [hC]; exact Nat.ne_of_lt (Nat.lt_succ_of_lt (Heap.lt_size e))) (Heap.get?_push_of_some _ (hH2 ▸ Heap.get?_push_of_some _ e))
  have hacc : h₁.get? s.heap.objs.size = some { cls := .type "list", data := .seq ([] : List Value).toArray } := hsb₁.extBut _ _ hDC (Heap.get?_push_of_some _ (hH2 ▸ Heap.get?_push_size _ rfl))
  have hD0 : H s.heap.objs.size = none := I.fresh
  have hC0 : H Hq.objs.size = none := I.hok.fresh hCle
  have st0' : tn 0 h₁ := T.keep 0 _ _ st0 fun b hb o e => old b o e
  -- the block's state at its beginning
  have I0 : ∀ tk, Inv (cE X N' scope Hq.objs.size s H fp) [] (gK n ix σ) (upd H s.heap.objs.size (.lst [])) { s with heap := h₁, toks := tk } := fun tk => by
    refine AA ok hcalm I hf hfl hCle hns₁ old (Un.laid old (Nat.le_refl _) hD0) (I.hok.laid old (Nat.le_refl _) ⟨Nat.zero_le _, [], 0, .nil, hacc⟩) (by rw [aK hDC.symm]; exact hC0) fun c hc e => ?_
    rw [aK (Nat.ne_of_lt hc)]; exact e
  have loop : ∀ tk, codeAny (model X.prog X.w) X.A (.compLoop (.ListComp elt [⟨tgt, iter, ifs, 0⟩] scope pos) 0 (.ref it) (.ref s.heap.objs.size) (compEnvC scope (vH X.env scope.names []) Hq.objs.size X.env))
      (RR (.ref s.heap.objs.size) Hq.objs.size) { s with heap := h₁, toks := tk } := fun tk => by
    have fpk : ∀ {pins' : List (Addr × Obj)} {σ' : St} {H' : Hp} {s' : Shared}, Inv (cE X N' scope Hq.objs.size s H fp) pins' σ' H' s' -> pins' = [] -> (∀ b ∈ fp, H' b = none) -> ∀ b ∈ fp, nP (cE X N' scope Hq.objs.size s H fp) pins' H' b := fun I' e hn b hb =>
      ⟨hn b hb, (I'.ok.exf b hb).1, I'.ok.exfs b hb, .inl hb, (I'.ok.exf b hb).2, by subst e; intro p hp; exact absurd (show p ∈ ([] : List (Addr × Obj)) from hp) (by simp)⟩
    refine wo (fun nn s' => ∃ (i : Nat) (σ' : St) (G' H' : Hp) (ρ' : Ev) (vs : List V) (ys : List D), nn = items.length - i /\ i <= items.length /\ Inv (cE X N' scope Hq.objs.size s H fp) [] σ' H' s' /\ tn i s'.heap /\ (∀ b ∈ fp, H' b = none) /\
      H' s.heap.objs.size = some (.lst vs) /\ G' s.heap.objs.size = none /\ Up G H G' H' /\ StE X.K G' H' σ' ρ' /\ (NoOwn ρ') /\ Reps X.K G' vs ys /\
      (gD asg gt ge (items.drop i) ρ' >>= fun zs => if (ys ++ zs).length <= sizeLine then R.ok (ys ++ zs) else .no).post (zp X.K G H Q) (Exx X σ G H)) ?_ items.length
      ⟨0, gK n ix σ, G, upd H s.heap.objs.size (.lst []), iq n ix ρ, [], [], by simp, Nat.zero_le _, I0 tk, st0', fun b hb => by rw [aK (Nat.ne_of_lt (hfl b hb))]; exact (hf b hb).1, aS, st.sub.free hD0,
        ⟨fun a o e => by rw [aK (aF e (st.sub.free hD0))]; exact st.sub a o e, .refl _, .into hD0, fun _ _ e => .inl e⟩,
        ⟨fun a o e => by rw [aK (aF e (st.sub.free hD0))]; exact st.sub a o e, (uC st n ix).len, (uC st n ix).val, fun j m C p fs h => absurd h (NoOwn.obj mJ j m C p fs)⟩, mJ, .nil, by simpa using h⟩
    rintro nn s' ⟨i, σ', G', H', ρ', vs, ys, rfl, hil, I', tn', fr', hD', gD', up', st', no', rp', h'⟩
    have hIt := hi i G' H' up'.gg st'.sub
    by_cases hlt : i < items.length
    · -- a turn
      have hd : items.drop i = items[i] :: items.drop (i + 1) := List.drop_eq_getElem_cons hlt
      rw [hd] at h'
      obtain ⟨go, yl⟩ := hIt.1 items[i] (by simp [hlt])
      refine wpAny_mono (T.item (cE X N' scope Hq.objs.size s H fp) rfl rfl rfl hcalm i [] s' σ' H' (fun _ _ => False) I' (fpk I' rfl fr') tn' go) (fun r s1 ⟨u, hr, h1⟩ => ?_) fun _ _ z => z
      subst hr
      refine wpAny_mono h1 (fun _ s2 ⟨x2, H2, I2, r2, y2, tn2, fr2⟩ => ?_) fun _ _ z => z
      obtain ⟨G2, up2, rep2⟩ := yl x2 H2 y2
      have I2p := I2.pinned (fpk I2 rfl fr2) (T.obj _ _ tn2)
      have st2 : StE X.K G2 H2 σ' ρ' := st'.up up2
      have sr2 : StR X.K G2 H2 G2 H2 σ' ρ' := ⟨st2, up2.sub, .refl up2.sub, fun j ds e => absurd e (no'.own j ds), fun j k ds es l e => absurd e (no'.own j ds), no'.ob⟩
      have ea : ∃ ρ1, asg items[i] ρ' = .ok ρ1 := by
        unfold gD at h'
        cases q : asg items[i] ρ' with
        | ok k => exact ⟨k, rfl⟩
        | _ => rw [q] at h'; exact h'.elim
      obtain ⟨ρ1, ea⟩ := ea
      unfold gD at h'
      rw [ea] at h'
      simp only [gh, R.ok_bind] at h'
      refine wpAny_mono (hg Hq.objs.size s H fp _ s2 σ' H2 x2 u (fun σ3 H3 => H3 = H2 /\ StR X.K G2 H2 G2 H2 σ3 ρ1) I2p r2
        ⟨G2, H2, G2, ρ', items[i], _, sr2, rep2, ea, fun σ3 q => ⟨rfl, q⟩⟩) (fun _ s3 ⟨σ3, H3, I3, e3, sr3⟩ => ?_) fun _ _ z => z
      subst e3
      have no3 := hown _ _ _ ea no'
      have hD2 : H3 s.heap.objs.size = some (.lst vs) := up2.hh _ _ hD'
      have gD2 : G2 s.heap.objs.size = none := by
        cases q : G2 s.heap.objs.size with
        | none => rfl
        | some o =>
          rcases up2.fr _ _ q with z | z
          · rw [gD'] at z; cases z
          · rw [hD'] at z; cases z
      -- the tests
      have ek : ∃ k, gt ρ1 = .ok k := by
        cases q : gt ρ1 with
        | ok k => exact ⟨k, rfl⟩
        | _ => rw [q] at h'; exact h'.elim
      obtain ⟨k, ek⟩ := ek
      rw [ek] at h'
      simp only [gh, R.ok_bind] at h'
      refine wpAny_mono (ht Hq.objs.size s H fp _ s3 σ3 H3 (fun b H4 => b = k /\ ∃ G4, Up G2 H3 G4 H4) I3 ⟨G2, _, sr3.e, by rw [ek]; exact fun b G4 H4 u4 e4 => ⟨e4, G4, u4⟩⟩) (fun b s4 ⟨H4, I4, eb, G4, up4⟩ => ?_) fun _ _ z => z
      subst eb
      have next : ∀ {H7 : Hp} {s7 : Shared} {G7 : Hp} {vs7 : List V} {ys7 : List D}, Inv (cE X N' scope Hq.objs.size s H fp) ([] ++ rz fp s2.heap) σ3 H7 s7 -> H7 s.heap.objs.size = some (.lst vs7) -> G7 s.heap.objs.size = none -> Up G H G7 H7 -> StE X.K G7 H7 σ3 ρ1 -> Reps X.K G7 vs7 ys7 ->
          (gD asg gt ge (items.drop (i + 1)) ρ1 >>= fun zs => if (ys7 ++ zs).length <= sizeLine then R.ok (ys7 ++ zs) else .no).post (zp X.K G H Q) (Exx X σ G H) ->
          ∃ m, m < items.length - i /\ ∃ (i : Nat) (σ' : St) (G' H' : Hp) (ρ' : Ev) (vs : List V) (ys : List D), m = items.length - i /\ i <= items.length /\ Inv (cE X N' scope Hq.objs.size s H fp) [] σ' H' s7 /\ tn i s7.heap /\ (∀ b ∈ fp, H' b = none) /\
            H' s.heap.objs.size = some (.lst vs) /\ G' s.heap.objs.size = none /\ Up G H G' H' /\ StE X.K G' H' σ' ρ' /\ (NoOwn ρ') /\ Reps X.K G' vs ys /\
            (gD asg gt ge (items.drop i) ρ' >>= fun zs => if (ys ++ zs).length <= sizeLine then R.ok (ys ++ zs) else .no).post (zp X.K G H Q) (Exx X σ G H) := fun {H7 s7 G7 vs7 ys7} I7 hD7 gD7 up7 st7 rp7 h7 => by
        have pin : ∀ b ∈ fp, ∀ o, s2.heap.get? b = some o -> s7.heap.get? b = some o /\ H7 b = none := fun b hb o e => by
          have := I7.pin (b, o) (List.mem_append_right _ (List.mem_append_right _ (jN hb e)))
          exact ⟨this.1, this.2.1⟩
        refine ⟨items.length - (i + 1), by omega, i + 1, σ3, G7, H7, _, vs7, ys7, rfl, hlt, I7.unpinned, T.keep _ _ _ tn2 fun b hb o e => (pin b hb o e).1, fun b hb => ?_, hD7, gD7, up7, st7, no3, rp7, h7⟩
        obtain ⟨o, e, _⟩ := T.obj _ _ tn2 b hb
        exact (pin b hb o e).2
      have hD4 : H4 s.heap.objs.size = some (.lst vs) := up4.hh _ _ hD2
      have gD4 : G4 s.heap.objs.size = none := by
        cases q : G4 s.heap.objs.size with
        | none => rfl
        | some o =>
          rcases up4.fr _ _ q with z | z
          · rw [gD2] at z; cases z
          · rw [hD2] at z; cases z
      cases b with
      | false =>
        simp only [Bool.false_eq_true, if_false] at h' ⊢
        exact next I4 hD4 gD4 ((up'.trans up2).trans up4) (sr3.e.up up4) ((rp'.mono up2.gg).mono up4.gg) h'
      | true =>
        simp only [if_true] at h' ⊢
        have ex : ∃ y, ge ρ1 = .ok y := by
          cases q : ge ρ1 with
          | ok y => exact ⟨y, rfl⟩
          | _ => rw [q] at h'; exact h'.elim
        obtain ⟨y, ey⟩ := ex
        rw [ey] at h'
        simp only [gh, R.ok_bind] at h'
        refine wpAny_mono (he Hq.objs.size s H fp _ s4 σ3 H4 (fun v H5 => ∃ G5, Up G4 H4 G5 H5 /\ Rep X.K G5 v y) I4 ⟨G4, _, sr3.e.up up4, by rw [ey]; exact fun v G5 H5 u5 r5 => ⟨G5, u5, r5⟩⟩) (fun u5 s5 ⟨v5, H5, I5, r5, G5, up5, rep5⟩ => ?_) fun _ _ z => z
        have hD5 : H5 s.heap.objs.size = some (.lst vs) := up5.hh _ _ hD4
        have gD5 : G5 s.heap.objs.size = none := by
          cases q : G5 s.heap.objs.size with
          | none => rfl
          | some o =>
            rcases up5.fr _ _ q with z | z
            · rw [gD4] at z; cases z
            · rw [hD4] at z; cases z
        have ups := ((up'.trans up2).trans up4).trans up5
        rcases jU (asg := asg) (gt := gt) (ge := ge) (items.drop (i + 1)) ρ1 with ⟨zs, ez⟩ | ez
        · rw [ez] at h'
          simp only [R.ok_bind] at h'
          have hz : (ys ++ y :: zs).length <= sizeLine := by
            by_cases hz : (ys ++ y :: zs).length <= sizeLine
            · exact hz
            · rw [if_neg hz] at h'; exact h'.elim
          have hvl : vs.length < sizeLine := by
            rw [rp'.length]
            rw [List.length_append, List.length_cons] at hz
            omega
          refine wpAny_mono (rO (X := cE X N' scope Hq.objs.size s H fp) _ s5 σ3 H5 (.ref s.heap.objs.size) [v5] (.ref s.heap.objs.size) [u5] (fun _ H6 => H6 = upd H5 s.heap.objs.size (.lst (vs ++ [v5]))) I5 rfl (.cons r5 .nil)
            ⟨_, vs, v5, rfl, rfl, hD5, hvl, rfl⟩) (fun _ s6 ⟨_, H6, I6, _, e6⟩ => ?_) fun _ _ z => z
          subst e6
          have sub6 : Same G5 (upd H5 s.heap.objs.size (.lst (vs ++ [v5]))) := fun a o e => by rw [aK (aF e gD5)]; exact up5.sub a o e
          refine next I6 aS gD5 ⟨sub6, ups.gg, fun a o e => ?_, ups.fr⟩ ?_ (ys7 := ys ++ [y]) ((((rp'.mono up2.gg).mono up4.gg).mono up5.gg).append (.cons rep5 .nil)) ?_
          · rw [aK (aF e hD0)]; exact ups.hh a o e
          · exact ⟨sub6, ((sr3.e.up up4).up up5).len, ((sr3.e.up up4).up up5).val, fun j m C p fs h => absurd h (no3.obj j m C p fs)⟩
          · rw [ez]
            simp only [R.ok_bind, List.append_assoc, List.singleton_append]
            exact h'
        · rw [ez] at h'; exact h'.elim
    · -- the end
      have hie : i = items.length := by omega
      subst hie
      rw [List.drop_length] at h'
      unfold gD at h'
      simp only [R.ok_bind, List.append_nil] at h'
      refine wpAny_mono (T.done (cE X N' scope Hq.objs.size s H fp) rfl rfl rfl hcalm items.length [] s' σ' H' (fun _ _ => False) I' (fpk I' rfl fr') tn' (hIt.2 (Nat.le_refl _))) (fun r s1 ⟨hr, I1⟩ => ?_) fun _ _ z => z
      subst hr
      have hz : ys.length <= sizeLine := by
        by_cases hz : ys.length <= sizeLine
        · exact hz
        · rw [if_neg hz] at h'; exact h'.elim
      rw [if_pos hz] at h'
      have eH : upd (fun a => if a = s.heap.objs.size then none else H' a) s.heap.objs.size (.lst vs) = H' := by
        funext a
        unfold upd
        by_cases e : a = s.heap.objs.size
        · subst e; rw [if_pos rfl]; exact hD'.symm
        · rw [if_neg e]
          show (if a = s.heap.objs.size then none else H' a) = _
          rw [if_neg e]
      have hn : (fun a => if a = s.heap.objs.size then none else H' a) s.heap.objs.size = none := by simp
      have upn : Up G H G' (fun a => if a = s.heap.objs.size then none else H' a) := by
        refine ⟨fun a o e => ?_, up'.gg, fun a o e => ?_, up'.fr⟩
        · have : a ≠ s.heap.objs.size := aF e gD'
          simp only [this, if_false]; exact up'.sub a o e
        · have : a ≠ s.heap.objs.size := aF e hD0
          simp only [this, if_false]; exact up'.hh a o e
      obtain ⟨m1, hm1, _⟩ := I1.loc
      refine hR s.heap.objs.size Hq.objs.size s1 m1 vs G' _ upn hn hDC.symm (fun _ _ => trivial) (h' _ vs G' _ upn hn rp') hm1 I1.os I1.bare ?_ hCle (by rw [eH]; exact I1.base) (by rw [eH]; exact I1.hok)
      have := I1.free
      show (if Hq.objs.size = s.heap.objs.size then none else H' Hq.objs.size) = none
      rw [if_neg hDC.symm]; exact this
  exact codeAny_compStart_list (loop _) (T.self X.A 0 _ _ _ st0' (loop _))

theorem qk {tn:Nat->Heap->Prop} {J:It} {items:List D} {Q:VK} {RR:Value->Addr->Result->Shared->Prop} {E:Value->Shared->Prop} (ok:CompOk X scope x N' ix) (hcalm:X.calm=true)
 (he:∀ C s₂ H₂ fp,QF (cE X N' scope C s₂ H₂ fp) elt ge) (ht:∀ C s₂ H₂ fp,PTs (cE X N' scope C s₂ H₂ fp) ifs gt)
 (I:Inv X pins σ H s) (T:Turn X.prog X.w X.K (.Name x px) J fp it tn) (st0:tn 0 s.heap) (hf:∀ b∈fp,nP X pins H b) (st:StE X.K G H σ ρ) (hi:ItOk X.K G J items)
 (h:(fZ gt ge items (jI ix ρ)>>=fun ds=>if ds.length<=sizeLine then R.ok ds else .no).post (zp X.K G H Q) (Exx X σ G H))
 (hR:∀ (Dd C:Addr) (s':Shared) (m:Str->Option Value) (vs:List V) (G' H':Hp),Up G H G' H'->H' Dd=none->C≠Dd->(∀ ds,Reps X.K G' vs ds->True)->Q (.ref Dd) (upd H' Dd (.lst vs))->s'.heap.Ns C m->s'.os=s.os->AllBare s'.gens->H' C=none->s.heap.objs.size<=C->
 Un (frs X.stack) fp H (upd H' Dd (.lst vs)) s.heap s'.heap->HOk X.prog X.w (upd H' Dd (.lst vs)) s'.heap->RR (.ref Dd) C (.ok .next) s') :
  wpAny (model X.prog X.w) X.A (newList []) (fun acc s₃=>wpAny (model X.prog X.w) X.A (newFunctionEnv scope X.env.globals (vH X.env scope.names []) [] X.env.qual none .none (some X.env)) (fun cenv s₄=>
   codeAny (model X.prog X.w) X.A (.compStart (.ListComp elt [⟨.Name x px,iter,ifs,0⟩] scope pos) 0 (.ref it) acc { cenv with scope:=relabel scope X.env }) (RR acc cenv.locals) s₄) E s₃) E s:=
 pQ (n:=1) (asg:=jA 0) ok.t hcalm (fun C s₂ H₂ fp=>cw (X:=cE X N' scope C s₂ H₂ fp) (pos:=px) 0 ok.nd ok.hd (.inl (lookup_relabel_local ok.loc)) (.inr (lookup_relabel_local ok.loc))) Ap he ht I T st0 hf st hi h hR
end
inductive O where
 | nx (ρ:Ev)|rt (d:D)|re (d:D) (ρ:Ev)|bk (ρ:Ev)|ct (ρ:Ev)|ex (C:Addr) (ρ:Ev)|no
noncomputable def FlyS (X:Cx) (G₀ H₀:Hp) (ρ:Ev) (C:Addr) (e:Value) (s':Shared):Prop:=∃ σ H₁ pins s₁ a,e=.ref a/\Inv X pins σ H₁ s₁/\
 ((∃ G₁ h' vs,StR X.K G₀ H₀ G₁ H₁ σ ρ/\Heap.MadeExcOf s₁.heap h' a (.ref C) vs/\s'={ s₁ with heap:=h' })\/(∃ G' H',Cn X.prog X.w X.stack H₁ s₁ a C H' s'/\StR X.K G₀ H₀ G' H' σ ρ)\/
  ∃ G' H' L,X.env.frame=some L/\Be X pins L H₁ s₁ a C H' s'/\StR X.K G₀ H₀ G' H' σ ρ)
theorem FlyS.of {H₀ G₁ H₁:Hp} {e:Value} (sr:StR X.K G₀ H₀ G₁ H₁ σ ρ) (f:JP X σ G₁ H₁ C e s'):FlyS X G₀ H₀ ρ C e s':=by
 obtain ⟨pins,s₁,a,e,I,way⟩:=f
 refine ⟨σ,H₁,pins,s₁,a,e,I,?_⟩
 rcases way with ⟨h',vs,m,z⟩|⟨G',H',fl,u⟩|⟨G',H',L,hL,fl,u⟩
 ·exact .inl ⟨G₁,h',vs,sr,m,z⟩
 ·exact .inr (.inl ⟨G',H',fl,sr.ups u⟩)
 ·exact .inr (.inr ⟨G',H',L,hL,fl,sr.ups u⟩)
theorem FlyS.map {A B A' B':Hp} {ρ':Ev} {e:Value} (f:FlyS X A B ρ C e s') (h:∀ σ G H,StR X.K A B G H σ ρ->StR X.K A' B' G H σ ρ'):FlyS X A' B' ρ' C e s':=by
 obtain ⟨σ,H₁,pins,s₁,a,e,I,way⟩:=f
 refine ⟨σ,H₁,pins,s₁,a,e,I,?_⟩
 rcases way with ⟨G₁,h',vs,sr,m,z⟩|⟨G',H',fl,sr⟩|⟨G',H',L,hL,fl,sr⟩
 ·exact .inl ⟨G₁,h',vs,h _ _ _ sr,m,z⟩
 ·exact .inr (.inl ⟨G',H',fl,h _ _ _ sr⟩)
 ·exact .inr (.inr ⟨G',H',L,hL,fl,h _ _ _ sr⟩)
noncomputable def nh (X:Cx) (G₀ H₀:Hp) (D:Ends) (o:O):Prop:=match o with
 | .nx ρ=>∀ σ G H,StR X.K G₀ H₀ G H σ ρ->D.nx σ H
 | .rt d=>∀ v G H,Up G₀ H₀ G H->Rep X.K G v d->D.rt v H
 | .re d ρ=>∀ v σ G H,StR X.K G₀ H₀ G H σ ρ->Rep X.K G v d->D.rt v H
 | .bk ρ=>∀ σ G H,StR X.K G₀ H₀ G H σ ρ->D.bk σ H
 | .ct ρ=>∀ σ G H,StR X.K G₀ H₀ G H σ ρ->D.ct σ H
 | .ex C ρ=>∀ e s',FlyS X G₀ H₀ ρ C e s'->X.xe e s'
 | .no=>False
noncomputable def tS (X:Cx) (G₀ H₀:Hp) (g:Ev->O):TS:=fun D σ H=>∃ G ρ,StR X.K G₀ H₀ G H σ ρ/\nh X G₀ H₀ D (g ρ)
noncomputable def QSF (X:Cx) (st:Stmt) (g:Ev->O):Prop:=∀ G₀ H₀,PS X st (tS X G₀ H₀ g)
noncomputable def zE (X:Cx) (st:List Stmt) (g:Ev->O):Prop:=∀ G₀ H₀,PSs X st (tS X G₀ H₀ g)
noncomputable def R.out {α:Type} (m:R α) (ρ:Ev) (k:α->O):O:=match m with
 | .ok a=>k a
 | .ex C=>.ex C ρ
 | .no=>.no
noncomputable def O.seq (o:O) (k:Ev->O):O:=match o with
 | .nx ρ=>k ρ
 | o=>o
section
variable {X:Cx} {st:Stmt} {cG body a b:List Stmt} {e c tg:Expr} {g g1 g2:Ev->O} {ga:Ev->R D} {gt:Ev->R Bool} {gl:Ev->R (List D)} {pos:Pos}
theorem Exx.of {H₀:Hp} {D:Ends} (sr:StR X.K G₀ H₀ G H σ ρ) (h:nh X G₀ H₀ D (.ex C ρ)):Exx X σ G H C:=fun e s' ⟨G1,H1,u,f⟩=>h e s' (.of (sr.ups u) f)
theorem sU:zE X [] (fun ρ=>.nx ρ):=fun G₀ H₀ pins s σ H D I h=>by
 obtain ⟨G,ρ,sr,h⟩:=h
 try dsimp only at h
 exact DM pins s σ H D I (h σ G H sr)
theorem qr (h1:QSF X st g1) (h2:zE X cG g2):zE X (st::cG) (fun ρ=>(g1 ρ).seq g2):=fun G₀ H₀ pins s σ H D I h=>by
 refine oY (h1 G₀ H₀) (h2 G₀ H₀) pins s σ H D I ?_
 obtain ⟨G,ρ,sr,h⟩:=h
 try dsimp only at h
 refine ⟨G,ρ,sr,?_⟩
 cases q:g1 ρ with
 | nx ρ'=>rw [q] at h;exact fun σ' G' H' sr'=>⟨G',ρ',sr',h⟩
 | rt d=>rw [q] at h;exact h
 | re d ρ'=>rw [q] at h;exact h
 | bk ρ'=>rw [q] at h;exact h
 | ct ρ'=>rw [q] at h;exact h
 | ex C ρ'=>rw [q] at h;exact h
 | no=>rw [q] at h;exact h
theorem wJ (he:QF X e ga):QSF X (.Return (some e) pos) (fun ρ=>(ga ρ).out ρ .rt):=fun G₀ H₀ pins s σ H D I h=>by
 refine BF he pins s σ H D I ?_
 obtain ⟨G,ρ,sr,h⟩:=h
 try dsimp only at h
 refine ⟨G,ρ,sr.e,?_⟩
 cases q:ga ρ with
 | ok d=>rw [q] at h;exact fun v G' H' u r=>h v G' H' (sr.up.trans u) r
 | ex C=>rw [q] at h;exact Exx.of sr h
 | no=>rw [q] at h;exact h
theorem tm (he:QF X e ga) (hs:swapsWith e none pos.line X.env=pure false:=by rfl):QSF X (.Expr e pos) (fun ρ=>(ga ρ).out ρ fun _=>.nx ρ):=fun G₀ H₀ pins s σ H D I h=>by
 refine pY he hs pins s σ H D I ?_
 obtain ⟨G,ρ,sr,h⟩:=h
 try dsimp only at h
 refine ⟨G,ρ,sr.e,?_⟩
 cases q:ga ρ with
 | ok d=>rw [q] at h;exact fun v G' H' u r=>h σ G' H' (sr.ups u)
 | ex C=>rw [q] at h;exact Exx.of sr h
 | no=>rw [q] at h;exact h
theorem yW (hc:QB X c gt) (ha:zE X a g1) (hb:zE X b g2):QSF X (.If c a b pos) (fun ρ=>(gt ρ).out ρ fun k=>if k=true then g1 ρ else g2 ρ):=fun G₀ H₀ pins s σ H D I h=>by
 refine G9 hc (ha G₀ H₀) (hb G₀ H₀) pins s σ H D I ?_
 obtain ⟨G,ρ,sr,h⟩:=h
 try dsimp only at h
 refine ⟨G,ρ,sr.e,?_⟩
 cases q:gt ρ with
 | ok k=>
  rw [q] at h
  intro b' G' H' u r
  subst r
  cases b' with
  | true=>rw [if_pos rfl];exact ⟨G',ρ,sr.ups u,by simpa [R.out] using h⟩
  | false=>rw [if_neg Bool.false_ne_true];exact ⟨G',ρ,sr.ups u,by simpa [R.out] using h⟩
 | ex C=>rw [q] at h;exact Exx.of sr h
 | no=>rw [q] at h;exact h
theorem nL (he:QF X e ga) (hg:PGF X tg asg) (hs:swapsWithSole [tg] e pos.line X.env=pure false:=by rfl) (hw:swappedStores [tg] e X.env=pure none:=by rfl)
 (hn:∀ d ρ C,asg d ρ ≠ .ex C:=by intro _ _ _ z;cases z) (h1:(assignEach [tg] X.env).map (·.2)=[assign tg X.env]:=by rfl):QSF X (.Assign [tg] e pos) (fun ρ=>(ga ρ).out ρ fun d=>(asg d ρ).out ρ .nx):=fun G₀ H₀ pins s σ H D I h=>by
 refine mx he hg hs hw h1 pins s σ H D I ?_
 obtain ⟨G,ρ,sr,h⟩:=h
 try dsimp only at h
 refine ⟨G,ρ,sr.e,?_⟩
 cases q:ga ρ with
 | ok d=>
  rw [q] at h
  simp only [R.out] at h
  intro v G' H' u r
  cases q2:asg d ρ with
  | ok ρ'=>rw [q2] at h;exact ⟨G₀,H₀,G',ρ,d,ρ',sr.ups u,r,q2,fun σ' sr'=>h σ' G' H' sr'⟩
  | ex C=>exact absurd q2 (hn d ρ C)
  | no=>rw [q2] at h;exact h.elim
 | ex C=>rw [q] at h;exact Exx.of sr h
 | no=>rw [q] at h;exact h
theorem wg (i:Nat) (hN:X.N.Nodup) (he:QF X e ga) (hi:X.N[i]?=some x:=by rfl) (hx:Loc X.env.scope x:=by first|exact Or.inl rfl|exact Or.inr rfl)
 (hs:swapsWithSole [.Name x p] e pos.line X.env=pure false:=by rfl) (hw:swappedStores [.Name x p] e X.env=pure none:=by rfl) (hf:X.fn x=true\/X.env.scope.names.lookup x=some .local:=by first|exact .inl rfl|exact .inr rfl) :
  QSF X (.Assign [.Name x p] e pos) (fun ρ=>(ga ρ).out ρ fun d=>.nx (ρ.set i (some (.val d)))):=nL he (cw i hN hi hx hf) hs hw
theorem StR.setOwn {K:PySem.W.Frag} {H₀:Hp} (s:StR K G₀ H₀ G H σ ρ) {l:Addr} (hl:H l=none) (r:Reps K G vs ds) (i:Nat) :
  StR K G₀ H₀ G (upd H l (.lst vs)) (σ.set i (some (.ref l))) (ρ.set i (some (.own ds))):=by
 have gl:G l=none:=s.e.sub.free hl
 have sub:Same G (upd H l (.lst vs)):=fun a o e=>by rw [aK (aF e gl)];exact s.e.sub a o e
 have get:∀ (j:Nat) x,(ρ.set i (some (.own ds)))[j]?=some (some x)->(j=i/\x=.own ds/\i<σ.length)\/(j≠i/\ρ[j]?=some (some x)/\(σ.set i (some (.ref l)))[j]?=σ[j]?):=fun j x h=>by
  by_cases e:i=j
  ·subst e
   have hl:i<ρ.length:=by
    have:=(List.getElem?_eq_some_iff.mp h).1
    simpa using this
   rw [List.getElem?_set_self hl] at h
   exact .inl ⟨rfl,by injection (Option.some.inj h) with q;exact q.symm,by rw [s.e.len];exact hl⟩
  ·rw [List.getElem?_set_ne e] at h
   exact .inr ⟨fun z=>e z.symm,h,List.getElem?_set_ne e⟩
 have ob:ObSt K H₀ G (upd H l (.lst vs)) (σ.set i (some (.ref l))) (ρ.set i (some (.own ds))):=by
  obtain ⟨ow,o1,o2⟩:=s.ob
  have nl:∀ {a:Addr} {o:HO},H a=some o->a≠l:=fun e z=>by rw [z,hl] at e;cases e
  refine ⟨fun a=>if a=l then some (i,0) else ow a,fun j es l' h1 h2=>?_,fun j m C p fs h1=>?_⟩
  ·rcases get j _ h1 with ⟨rfl,e,hj⟩|⟨_,e,e'⟩
   ·rw [List.getElem?_set_self hj] at h2;cases h2;exact if_pos rfl
   ·rw [e'] at h2
    obtain ⟨l2,vs2,q1,q2,_⟩:=s.own j es e
    rw [h2] at q1;cases q1
    exact (if_neg (nl q2)).trans (o1 j es l' e h2)
  ·rcases get j _ h1 with ⟨_,e,_⟩|⟨_,e,e'⟩
   ·cases e
   ·rw [e']
    refine ⟨(o2 j m C p fs e).1,(o2 j m C p fs e).2.keep ⟨fun a t o _ q=>?_,.refl _,fun a t o _ _ n=>n,fun a t o q1 q2=>?_,fun a o _ _ n=>n⟩⟩
    ·rw [aK (nl q)];exact q
    ·exact (if_neg (nl q2)).trans q1
 refine ⟨⟨sub,by simp [s.e.len],fun j d' h=>?_,ob.rd⟩,s.sub0,⟨sub,s.up.gg,fun a o e=>?_,s.up.fr⟩,fun j es h=>?_,fun j k es fs l' h1 h2 h3 h4=>?_,ob⟩
 ·rcases get j _ h with ⟨_,e,_⟩|⟨_,e,e'⟩
  ·cases e
  ·rw [e'];exact s.e.val j d' e
 ·rw [aK (aF (s.up.hh a o e) hl)];exact s.up.hh a o e
 ·rcases get j _ h with ⟨rfl,e,hj⟩|⟨_,e,e'⟩
  ·cases e
   exact ⟨l,vs,List.getElem?_set_self hj,aS,gl,s.up.hh.free hl,r⟩
  ·obtain ⟨l',vs',h1,h2,h3,h4,h5⟩:=s.own j es e
   exact ⟨l',vs',by rw [e'];exact h1,by rw [aK (aF h2 hl)];exact h2,h3,h4,h5⟩
 ·rcases get j _ h1 with ⟨rfl,e,hj⟩|⟨nj,e,e'⟩
  ·rcases get k _ h2 with ⟨rfl,f,_⟩|⟨nk,f,f'⟩
   ·rfl
   ·obtain ⟨l2,vs2,q1,q2,_⟩:=s.own k fs f
    rw [List.getElem?_set_self hj] at h3
    rw [f',q1] at h4
    cases h3
    cases h4
    rw [hl] at q2;cases q2
  ·rcases get k _ h2 with ⟨rfl,f,hk⟩|⟨nk,f,f'⟩
   ·obtain ⟨l2,vs2,q1,q2,_⟩:=s.own j es e
    rw [List.getElem?_set_self hk] at h4
    rw [e',q1] at h3
    cases h3
    cases h4
    rw [hl] at q2;cases q2
   ·exact s.inj j k es fs l' e f (e' ▸ h3) (f' ▸ h4)
theorem wD (i:Nat) (hN:X.N.Nodup) (he:QFL X e gl) (hi:X.N[i]?=some x:=by rfl) (hx:Loc X.env.scope x:=by first|exact Or.inl rfl|exact Or.inr rfl)
 (hs:swapsWithSole [.Name x p] e pos.line X.env=pure false:=by rfl) (hw:swappedStores [.Name x p] e X.env=pure none:=by rfl) (hf:X.fn x=true\/X.env.scope.names.lookup x=some .local:=by first|exact .inl rfl|exact .inr rfl) :
  QSF X (.Assign [.Name x p] e pos) (fun ρ=>(gl ρ).out ρ fun ds=>.nx (ρ.set i (some (.own ds)))):=fun G₀ H₀ pins s σ H D I h=>by
 refine mx he (jH (i:=i) hN hi hx hf) hs hw rfl pins s σ H D I ?_
 obtain ⟨G,ρ,sr,h⟩:=h
 try dsimp only at h
 refine ⟨G,ρ,sr.e,?_⟩
 cases q:gl ρ with
 | ok ds=>rw [q] at h;exact fun l vs G' H' u hl r=>h _ G' _ ((sr.ups u).setOwn hl r i)
 | ex C=>rw [q] at h;exact Exx.of sr h
 | no=>rw [q] at h;exact h
theorem StR.mut {K:PySem.W.Frag} {H₀:Hp} (s:StR K G₀ H₀ G H σ ρ) {l:Addr} {es:List D} (e:ρ[i]?=some (some (.own ds))) (hs:σ[i]?=some (some (.ref l))) (r:Reps K G vs es) :
  StR K G₀ H₀ G (upd H l (.lst vs)) σ (ρ.set i (some (.own es))):=by
 obtain ⟨l0,vs0,h1,h2,h3,h4,h5⟩:=s.own i ds e
 rw [hs] at h1
 cases h1
 have sub:Same G (upd H l (.lst vs)):=fun a o e=>by rw [aK (aF e h3)];exact s.e.sub a o e
 have hl:i<ρ.length:=(List.getElem?_eq_some_iff.mp e).1
 have get:∀ (j:Nat) x,(ρ.set i (some (.own es)))[j]?=some (some x)->(j=i/\x=.own es)\/(j≠i/\ρ[j]?=some (some x)):=fun j x h=>by
  by_cases e:i=j
  ·subst e
   rw [List.getElem?_set_self hl] at h
   exact .inl ⟨rfl,by injection (Option.some.inj h) with q;exact q.symm⟩
  ·rw [List.getElem?_set_ne e] at h
   exact .inr ⟨fun z=>e z.symm,h⟩
 have ob:ObSt K H₀ G (upd H l (.lst vs)) σ (ρ.set i (some (.own es))):=by
  obtain ⟨ow,o1,o2⟩:=s.ob
  have ol:=o1 i ds l e hs
  refine ⟨ow,fun j fs l' q1 q2=>?_,fun j m C p fs q1=>?_⟩
  ·rcases get j _ q1 with ⟨rfl,_⟩|⟨nj,f1⟩
   ·exact o1 j ds l' e q2
   ·exact o1 j fs l' f1 q2
  ·rcases get j _ q1 with ⟨_,e'⟩|⟨nj,f1⟩
   ·cases e'
   ·have ne:∀ a t,ow a=some (j,t)->a≠l:=fun a t q z=>by rw [z,ol] at q;cases q;exact nj rfl
    refine ⟨(o2 j m C p fs f1).1,(o2 j m C p fs f1).2.keep ⟨fun a t o q1 q=>?_,.refl _,fun a t o _ _ n=>n,fun a t o q1 _=>q1,fun a o _ _ n=>n⟩⟩
    ·rw [aK (ne a t q1)];exact q
 refine ⟨⟨sub,by simp [s.e.len],fun j d' h=>?_,ob.rd⟩,s.sub0,⟨sub,s.up.gg,fun a o e=>?_,s.up.fr⟩,fun j fs h=>?_,fun j k fs gs l' q1 q2 q3 q4=>?_,ob⟩
 ·rcases get j _ h with ⟨_,e⟩|⟨_,e⟩
  ·cases e
  ·exact s.e.val j d' e
 ·rw [aK (aF e h4)];exact s.up.hh a o e
 ·rcases get j _ h with ⟨rfl,e'⟩|⟨nj,e'⟩
  ·cases e'
   exact ⟨l,vs,hs,aS,h3,h4,r⟩
  ·obtain ⟨l',vs',p1,p2,p3,p4,p5⟩:=s.own j fs e'
   have:l'≠l:=fun z=>by subst z;exact nj (s.inj j i fs ds l' e' e p1 hs)
   exact ⟨l',vs',p1,by rw [aK this];exact p2,p3,p4,p5⟩
 ·rcases get j _ q1 with ⟨rfl,_⟩|⟨nj,f1⟩
  ·rcases get k _ q2 with ⟨rfl,_⟩|⟨nk,f2⟩
   ·rfl
   ·exact s.inj j k ds gs l' e f2 q3 q4
  ·rcases get k _ q2 with ⟨rfl,_⟩|⟨nk,f2⟩
   ·exact s.inj j k fs ds l' f1 e q3 q4
   ·exact s.inj j k fs gs l' f1 f2 q3 q4
noncomputable def frz (i:Nat) (ρ:Ev):Ev:=match ρ[i]? with
 | some (some (.own ds))=>ρ.set i (some (.val (.lst false ds)))
 | _=>ρ
theorem StR.frzTo {K:PySem.W.Frag} {H₀:Hp} (s:StR K G₀ H₀ G H σ ρ) (i:Nat):∃ G',StR K G₀ H₀ G' H σ (L2.frz i ρ)/\(G'=G\/∃ l vs,G l=none/\G'=upd G l (.lst vs)):=by
 unfold L2.frz
 split
 ·rename_i ds e
  obtain ⟨l,vs,h1,h2,h3,h4,h5⟩:=s.own i ds e
  have hl:i<ρ.length:=(List.getElem?_eq_some_iff.mp e).1
  have g0:G₀ l=none:=s.sub0.free h4
  have into:Same G (upd G l (.lst vs)):=.into h3
  have sub:Same (upd G l (.lst vs)) H:=fun a o q=>by
   by_cases ea:a=l
   ·subst ea;rw [aS] at q;rw [<- q];exact h2
   ·rw [aK ea] at q;exact s.e.sub a o q
  have get:∀ (j:Nat) x,(ρ.set i (some (.val (.lst false ds))))[j]?=some (some x)->(j=i/\x=.val (.lst false ds))\/(j≠i/\ρ[j]?=some (some x)):=fun j x h=>by
   by_cases e:i=j
   ·subst e
    rw [List.getElem?_set_self hl] at h
    exact .inl ⟨rfl,by injection (Option.some.inj h) with q;exact q.symm⟩
   ·rw [List.getElem?_set_ne e] at h
    exact .inr ⟨fun z=>e z.symm,h⟩
  have ob:ObSt K H₀ (upd G l (.lst vs)) H σ (ρ.set i (some (.val (.lst false ds)))):=by
   obtain ⟨ow,o1,o2⟩:=s.ob
   have ol:=o1 i ds l e h1
   refine ⟨ow,fun j fs l' q1 q2=>?_,fun j m C p fs q1=>?_⟩
   ·rcases get j _ q1 with ⟨_,e'⟩|⟨nj,f1⟩
    ·cases e'
    ·exact o1 j fs l' f1 q2
   ·rcases get j _ q1 with ⟨_,e'⟩|⟨nj,f1⟩
    ·cases e'
    ·have ne:∀ a t,ow a=some (j,t)->a≠l:=fun a t q z=>by rw [z,ol] at q;cases q;exact nj rfl
     refine ⟨(o2 j m C p fs f1).1,(o2 j m C p fs f1).2.keep ⟨fun a t o _ q=>q,into,fun a t o q1 _ n=>?_,fun a t o q1 _=>q1,fun a o _ _ n=>n⟩⟩
     ·rw [aK (ne a t q1)];exact n
  refine ⟨upd G l (.lst vs),⟨⟨sub,by simp [s.e.len],fun j d' h=>?_,ob.rd⟩,s.sub0,⟨sub,s.up.gg.trans into,s.up.hh,fun a o q=>?_⟩,fun j fs h=>?_,fun j k fs gs l' q1 q2 q3 q4=>?_,ob⟩,.inr ⟨l,vs,h3,rfl⟩⟩
  ·rcases get j _ h with ⟨rfl,e'⟩|⟨_,e'⟩
   ·cases e'
    exact ⟨.ref l,h1,.lst aS (h5.mono into)⟩
   ·obtain ⟨v,p1,p2⟩:=s.e.val j d' e'
    exact ⟨v,p1,p2.mono into⟩
  ·by_cases ea:a=l
   ·subst ea;exact .inr h4
   ·rw [aK ea] at q;exact s.up.fr a o q
  ·rcases get j _ h with ⟨_,e'⟩|⟨nj,e'⟩
   ·cases e'
   ·obtain ⟨l',vs',p1,p2,p3,p4,p5⟩:=s.own j fs e'
    have:l'≠l:=fun z=>by subst z;exact nj (s.inj j i fs ds l' e' e p1 h1)
    exact ⟨l',vs',p1,p2,by rw [aK this];exact p3,p4,p5.mono into⟩
  ·rcases get j _ q1 with ⟨_,e'⟩|⟨nj,f1⟩
   ·cases e'
   ·rcases get k _ q2 with ⟨_,e'⟩|⟨nk,f2⟩
    ·cases e'
    ·exact s.inj j k fs gs l' f1 f2 q3 q4
 ·exact ⟨G,s,.inl rfl⟩
theorem StR.frz {K:PySem.W.Frag} {H₀:Hp} (s:StR K G₀ H₀ G H σ ρ) (i:Nat):∃ G',StR K G₀ H₀ G' H σ (L2.frz i ρ):=
 let ⟨G',h,_⟩:=s.frzTo i;⟨G',h⟩
theorem tt {sts:List Stmt} (i:Nat) (h:zE X sts g):zE X sts (fun ρ=>g (frz i ρ)):=fun G₀ H₀ pins s σ H D I q=>by
 obtain ⟨G,ρ,sr,q⟩:=q
 obtain ⟨G',sr'⟩:=sr.frz i
 exact h G₀ H₀ pins s σ H D I ⟨G',_,sr',q⟩
noncomputable def ownAt (ρ:Ev) (i:Nat):R (List D):=match ρ[i]? with
 | some (some (.own ds))=>.ok ds
 | _=>.no
theorem ownAt.ok {k:List D->O} {D:Ends} {H₀:Hp} (h:nh X G₀ H₀ D ((ownAt ρ i).out ρ k)):∃ ds,ρ[i]?=some (some (.own ds))/\nh X G₀ H₀ D (k ds):=by
 unfold ownAt at h
 split at h
 ·rename_i ds e;exact ⟨ds,e,h⟩
 ·exact h.elim
theorem pL (i:Nat) {ap cp:Pos} (he:QF X e ga) (hi:X.N[i]?=some x:=by rfl) (hv:Vis X.env.scope x:=by first|exact Or.inl rfl|exact Or.inr (Or.inl rfl))
 (hd:(x==("__debug__":Str))=false:=by decide) (hcd:(x==("__classdict__":Str))=false:=by decide) (hs1:starEach [e] X.env=(false,eval e X.env)::starEach [] X.env:=by rfl)
 (hbase:attributeBase (.Name x p) "append" X.env (eval (.Name x p) X.env)=eval (.Name x p) X.env:=by rfl)
 (hfew:((backTo cp (starEach [e] X.env)).all (fun x=>!x.1) && (backToKw cp (keywordEach [] X.env)).all (fun x=>x.1.isSome)
 && decide ([e].length+([]:List Keyword).length+(if ([]:List Keyword).isEmpty then 0 else 1)<30))=true:=by rfl)
 (hline:(ap.endLine==cp.line)=true:=by rfl)
 (hs:swapsWith (.Call (.Attribute (.Name x p) "append" ap) [e] [] cp) none pos.line X.env=pure false:=by rfl) :
  QSF X (.Expr (.Call (.Attribute (.Name x p) "append" ap) [e] [] cp) pos) (fun ρ=>(ownAt ρ i).out ρ fun ds=>(ga ρ).out ρ fun d=>if ds.length<sizeLine then .nx (ρ.set i (some (.own (ds++[d])))) else .no):=fun G₀ H₀ pins s σ H D I h=>by
 refine pY (Ch PySem.F.plainAttrs_list PySem.F.slot_list_append PySem.F.type_list_append rO (ip hi hv hd hcd) (fN he lC hs1) hbase hfew hline hs1 rfl) hs pins s σ H D I ?_
 obtain ⟨G,ρ,sr,h⟩:=h
 try dsimp only at h
 obtain ⟨ds,e1,h⟩:=ownAt.ok h
 obtain ⟨l,vs,h1,h2,h3,h4,h5⟩:=sr.own i ds e1
 refine ⟨.ref l,h1,.inl ⟨rfl,vs,.of h2⟩,G,ρ,sr.e,?_⟩
 cases q:ga ρ with
 | ok d=>
  rw [q] at h
  simp only [R.out] at h
  intro v G' H' u r
  by_cases hz:ds.length<sizeLine
  ·rw [if_pos hz] at h
   refine ⟨l,vs,v,rfl,rfl,u.hh _ _ h2,by rw [h5.length];exact hz,h _ G' _ ?_⟩
   exact (sr.ups u).mut e1 h1 ((h5.mono u.gg).append (.cons r .nil))
  ·rw [if_neg hz] at h;exact h.elim
 | ex C=>rw [q] at h;exact Exx.of sr h
 | no=>rw [q] at h;exact h
noncomputable def asL:D->R (List D)
 | .lst false xs=>.ok xs
 | _=>.no
noncomputable def dw (asg:D->Ev->R Ev) (g:Ev->O):List D->Ev->O
 | [],ρ=>.nx ρ
 | d::ds,ρ=>(asg d ρ).out ρ fun ρ1=>match g ρ1 with
  | .nx ρ2=>dw asg g ds ρ2
  | .ct ρ2=>dw asg g ds ρ2
  | .bk ρ2=>.nx ρ2
  | .rt d=>.rt d
  | .re d ρ2=>.re d ρ2
  | .ex C ρ2=>.ex C ρ2
  | .no=>.no
noncomputable def mix (H₀ G₁:Hp):Hp:=fun a=>match G₁ a with
 | some o=>some o
 | none=>H₀ a
theorem oV {H₀ G₁:Hp} {a:Addr} (h:mix H₀ G₁ a=none):G₁ a=none/\H₀ a=none:=by
 unfold mix at h
 cases q:G₁ a with
 | none=>rw [q] at h;exact ⟨rfl,h⟩
 | some o=>rw [q] at h;cases h
section
variable {K:PySem.W.Frag} {G₀ H₀ G₁ H₁ G H:Hp} {σ:St} {ρ:Ev}
theorem StR.to (s:StR K G₀ H₀ G₁ H₁ σ ρ):StR K G₁ (mix H₀ G₁) G₁ H₁ σ ρ:=by
 refine ⟨s.e,fun a o e=>?_,⟨s.e.sub,.refl _,fun a o e=>?_,fun _ _ e=>.inl e⟩,fun i ds e=>?_,s.inj,?_⟩
 ·unfold mix;rw [e]
 ·unfold mix at e
  cases q:G₁ a with
  | none=>rw [q] at e;exact s.up.hh a o e
  | some o'=>rw [q] at e;cases e;exact s.e.sub a o q
 ·obtain ⟨l,vs,h1,h2,h3,h4,h5⟩:=s.own i ds e
  exact ⟨l,vs,h1,h2,h3,by unfold mix;rw [h3];exact h4,h5⟩
 ·obtain ⟨ow,o1,o2⟩:=s.ob
  exact ⟨ow,o1,fun i m C p fs e=>⟨(o2 i m C p fs e).1,(o2 i m C p fs e).2.keep ⟨fun a t o _ q=>q,.refl _,fun a t o _ _ n=>n,fun a t o q1 _=>q1,fun a o _ g n=>by unfold mix;rw [g];exact n⟩⟩⟩
theorem Up.back (u:Up G₀ H₀ G₁ H₁) (v:Up G₁ (mix H₀ G₁) G H):Up G₀ H₀ G H:=by
 refine ⟨v.sub,u.gg.trans v.gg,fun a o e=>?_,fun a o e=>?_⟩
 ·cases q:G₁ a with
  | none=>exact v.hh a o (by unfold mix;rw [q];exact e)
  | some o'=>
   have h1:=u.sub a o' q
   have h2:=u.hh a o e
   rw [h1] at h2
   cases h2
   exact v.hh a o (by unfold mix;rw [q])
 ·rcases v.fr a o e with h|h
  ·exact u.fr a o h
  ·exact .inr (oV h).2
theorem StR.back (s0:Same G₀ H₀) (u:Up G₀ H₀ G₁ H₁) (s:StR K G₁ (mix H₀ G₁) G H σ ρ):StR K G₀ H₀ G H σ ρ:=
 ⟨s.e,s0,u.back s.up,fun i ds e=>let ⟨l,vs,h1,h2,h3,h4,h5⟩:=s.own i ds e;⟨l,vs,h1,h2,h3,(oV h4).2,h5⟩,s.inj,by
 obtain ⟨ow,o1,o2⟩:=s.ob
 exact ⟨ow,o1,fun i m C p fs e=>⟨(o2 i m C p fs e).1,(o2 i m C p fs e).2.keep ⟨fun a t o _ q=>q,.refl _,fun a t o _ _ n=>n,fun a t o q1 _=>q1,fun a o _ _ n=>(oV n).2⟩⟩⟩⟩
end
theorem wf (hp:PassesOwn (model X.prog X.w) X.A X.env X.xe) (hcalm:X.calm=true) (hi:QIF X tg iter gi) (hg:PGF X tg asg) (hb:zE X body g)
 (hs:∀ x,foldedSetIterable iter X.env x=pure x:=by intro _;rfl) (hn:∀ d ρ C,asg d ρ ≠ .ex C:=by intro _ _ _ z;cases z):QSF X (.For tg iter body [] pos) (fun ρ=>(gi ρ).out ρ fun items=>dw asg g items ρ):=fun G₀ H₀ pins s σ H D I h=>by
 obtain ⟨G,ρ,sr,h⟩:=h
 try dsimp only at h
 cases q:gi ρ with
 | ok items=>
  rw [q] at h
  simp only [R.out] at h
  have key:∀ (J:It) (G1 H1:Hp),Up G H G1 H1->ItOk X.K G1 J items->∃ W:Nat->Nat->St->Hp->Prop,(∃ m,W 0 m σ H1)/\∀ i m σ H,W i m σ H->
    (J.stop i H/\D.nx σ H)\/(J.go i H/\∃ N:St->Hp->Prop,(∀ σ' H',N σ' H'->∃ m',m'<m/\W (i+1) m' σ' H')/\∀ x H',J.yld i H x H'->(fun v σ H Q=>∃ G₀ H₀ G ρ d ρ',StR X.K G₀ H₀ G H σ ρ/\Rep X.K G v d/\asg d ρ=.ok ρ'/\∀ σ',StR X.K G₀ H₀ G H σ' ρ'->Q σ' H) x σ H' fun σ2 H2=>(fun D σ H=>∃ G₀ H₀,tS X G₀ H₀ g D σ H) { D with nx:=N,ct:=N,bk:=D.nx } σ2 H2):=by
   intro J G1 H1 u1 iok
   have sr1:=sr.ups u1
   refine ⟨fun i m σ' H'=>m=items.length - i/\i<=items.length/\∃ G' ρ',StR X.K G1 (mix H₀ G1) G' H' σ' ρ'/\nh X G₀ H₀ D (dw asg g (items.drop i) ρ'),⟨items.length,by simp,Nat.zero_le _,G1,ρ,sr1.to,by simpa using h⟩,?_⟩
   rintro i m σ' H' ⟨rfl,hil,G',ρ',sr',h'⟩
   have hIt:=iok i G' H' sr'.up.gg sr'.e.sub
   by_cases hlt:i<items.length
   ·have hd:items.drop i=items[i]::items.drop (i+1):=List.drop_eq_getElem_cons hlt
    rw [hd] at h'
    obtain ⟨go,yl⟩:=hIt.1 items[i] (by simp [hlt])
    refine .inr ⟨go,fun σ2 H2=>i+1<=items.length/\∃ G2 ρ2,StR X.K G1 (mix H₀ G1) G2 H2 σ2 ρ2/\nh X G₀ H₀ D (dw asg g (items.drop (i+1)) ρ2),fun σ2 H2 q2=>⟨items.length - (i+1),by omega,rfl,q2⟩,fun x H2 y=>?_⟩
    obtain ⟨G2,up2,rep2⟩:=yl x H2 y
    unfold dw at h'
    cases q2:asg items[i] ρ' with
    | ok ρ1=>
     rw [q2] at h'
     simp only [R.out] at h'
     refine ⟨G1,mix H₀ G1,G2,ρ',items[i],ρ1,sr'.ups up2,rep2,q2,fun σ3 sr3=>⟨G1,mix H₀ G1,G2,ρ1,sr3,?_⟩⟩
     cases q3:g ρ1 with
     | nx ρ2=>rw [q3] at h';exact fun σ4 G4 H4 sr4=>⟨hlt,G4,ρ2,sr4,h'⟩
     | ct ρ2=>rw [q3] at h';exact fun σ4 G4 H4 sr4=>⟨hlt,G4,ρ2,sr4,h'⟩
     | bk ρ2=>rw [q3] at h';exact fun σ4 G4 H4 sr4=>h' σ4 G4 H4 (sr4.back sr.sub0 sr1.up)
     | rt d=>rw [q3] at h';exact fun v G4 H4 u4 r4=>h' v G4 H4 (sr1.up.back u4) r4
     | re d ρ2=>rw [q3] at h';exact fun v σ4 G4 H4 sr4 r4=>h' v σ4 G4 H4 (sr4.back sr.sub0 sr1.up) r4
     | ex C ρ2=>rw [q3] at h';exact fun e s' f4=>h' e s' (f4.map fun σ4 G4 H4 sr4=>sr4.back sr.sub0 sr1.up)
     | no=>rw [q3] at h';exact h'
    | ex C=>exact absurd q2 (hn _ _ C)
    | no=>rw [q2] at h';exact h'.elim
   ·have hie:i=items.length:=by omega
    subst hie
    rw [List.drop_length] at h'
    exact .inl ⟨hIt.2 (Nat.le_refl _),h' σ' G' H' (sr'.back sr.sub0 sr1.up)⟩
  have hb':PSs X body (fun D σ H=>∃ G₀ H₀,tS X G₀ H₀ g D σ H):=fun pins s σ H D I ⟨G₀,H₀,q⟩=>hb G₀ H₀ pins s σ H D I q
  refine BI hp hcalm hi hg hb' hs pins s σ H D I ⟨G,ρ,sr.e,?_⟩
  rw [q]
  exact fun J G1 H1 u1 iok=>key J G1 H1 u1 iok
 | ex C=>
  rw [q] at h
  have hb':PSs X body (fun D σ H=>∃ G₀ H₀,tS X G₀ H₀ g D σ H):=fun pins s σ H D I ⟨G₀,H₀,q⟩=>hb G₀ H₀ pins s σ H D I q
  refine BI hp hcalm hi hg hb' hs pins s σ H D I ⟨G,ρ,sr.e,?_⟩
  rw [q]
  exact Exx.of sr h
 | no=>rw [q] at h;exact h.elim
end
noncomputable def spF (K:PySem.W.Frag) (f:List D->R D):Sp:=fun vs H Q E=>∃ G ds,Same G H/\Reps K G vs ds/\(f ds).post (Fin G H (Rep K) Q) (fun C=>∀ G' H',Up G H G' H'->E (.ref C) none H')
noncomputable abbrev FnF (P:Program) (w:World) (K:PySem.W.Frag) (mg:Str->Option Value) (base:Heap) (k:Nat) (f:Addr) (fd:FuncData) (ps:List Str) (g:List D->R D):Prop:=FnOk P w K mg base (CXo P w) k f fd ps (fun vs H Q E=>vs.length=ps.length/\spF K g vs H Q E)
section
variable {X:Cx} {k:Nat} {f:Addr} {fd:FuncData} {ps:List Str} {x:Str} {p pos:Pos} {e:Expr} {es:List Expr} {gl:Ev->R (List D)} {g:List D->R D}
theorem yI (F:FnF X.prog X.w X.K X.mg X.base k f fd ps g) (hr:Room k X.A) (hg:Gl X x) (hm:X.mg x=some (.ref f)) (hk:PySem.W.keepIn X.K (.ref f)=true) (hb:Binds X.K fd ps []) (ha:QFA X (e::es) gl)
 (hdb:(x==("__debug__":Str))=false:=by decide) (he:starEach (e::es) X.env=(false,eval e X.env)::starEach es X.env:=by rfl) (hpl:(backTo pos (starEach es X.env)).any (·.1)=false:=by rfl) :
  QF X (.Call (.Name x p) (e::es) [] pos) (fun ρ=>gl ρ>>=fun ds=>if ds.length=ps.length then g ds else .no):=by
 intro pins s σ H Q I h
 obtain ⟨G,ρ,st,h⟩:=h
 have t:tAF X gl σ H (fun vs H1=>∃ G1 ds,Up G H G1 H1/\Same G1 H1/\Reps X.K G1 vs ds/\ds.length=ps.length/\(g ds).post (Fin G1 H1 (Rep X.K) Q) (Exx X σ G1 H1)):=by
  refine tG.intro st h fun ds vs G1 H1 u1 st1 r1 h1=>?_
  by_cases hl:ds.length=ps.length
  ·rw [if_pos hl] at h1;exact ⟨G1,ds,u1,st1.sub,r1,hl,h1⟩
  ·rw [if_neg hl] at h1;exact h1.elim
 refine wpAny_Call_Name_kw (pe I hg hm ?_ hdb)
 refine PySem.W.callWith_K (h₀:=X.base) I.ok.mod.kin hk (thn (ha pos pins s σ H _ I t) fun us s1 q=>⟨?_,?_⟩) he hpl
 ·obtain ⟨vs,H1,I1,r,_⟩:=q;exact I1.kIn
 obtain ⟨vs,H1,I1,r,G1,ds,u1,sub1,rp,hl,h1⟩:=q
 have hvl:vs.length=ps.length:=by rw [rp.length];exact hl
 have hul:(us++[]).length=ps.length:=by rw [List.append_nil,<- r.length];exact hvl
 have hbb:=hb s1 us I1.kIn hul
 rw [List.append_nil] at hbb
 refine wpAny_call (codeAny_mono (F.run X.A X.stack s1 H1 ⟨us,[]⟩ us vs Q (fun c _ H'=>∃ C G',c=.ref C/\Up G1 H1 G' H'/\Exx X σ G1 H1 C) hr I1.env0 hbb r ⟨hvl,G1,ds,sub1,rp,h1.mono (fun _ q=>q) fun C q G' H' u=>⟨C,G',rfl,u,q⟩⟩) fun r' s' hq=>?_)
 cases r' with
 | error e'=>
  obtain ⟨a,C,H',rfl,fl,C',G',ec,u,q⟩:=hq
  cases ec
  exact q _ _ ⟨G1,H1,.refl sub1,pins,s1,a,rfl,I1,.inr (.inl ⟨G',H',fl,u⟩)⟩
 | ok fl=>
  cases fl with
  | ret u=>exact I1.after hq
  | _=>exact False.elim hq
end
theorem ObjOk.there {w:World} {o:HO} (x:ObjOk P w H h a o):∃ ob,h.get? a=some ob:=by
 cases o with
 | lst xs=>obtain ⟨_,_,_,_,e⟩:=x;exact ⟨_,e⟩
 | tup xs=>obtain ⟨_,_,_,o,e,_⟩:=x;exact ⟨_,e⟩
 | dK kvs=>obtain ⟨_,_,_,_,o,_,_,e,_⟩:=x;exact ⟨_,e⟩
 | dT kvs=>obtain ⟨_,_,_,_,o,_,_,e,_⟩:=x;exact ⟨_,e⟩
 | set S n=>obtain ⟨o,_,_,_,e,_⟩:=x;exact ⟨_,e⟩
 | ins C dx fs=>obtain ⟨_,_,_,e,_⟩:=x;exact ⟨_,e⟩
 | own y=>obtain ⟨_,e⟩:=x;exact ⟨_,e⟩
 | xd fs=>obtain ⟨_,⟨_,_,_,e,_⟩,_⟩:=x;exact ⟨_,e⟩
 | rng lo hi=>obtain ⟨_,_,_,e⟩:=x;exact ⟨_,e⟩
 | frz ob u=>obtain ⟨e,_⟩:=x;exact ⟨_,e⟩
 | tbl ps=>obtain ⟨_,e,_⟩:=x;exact ⟨_,e⟩
 | met f y=>exact ⟨_,show h.get? a=some _ from x⟩
 | ext φ=>obtain ⟨_,⟨_,e⟩,_⟩:=x;exact ⟨_,e⟩
theorem A6 {env:Env} {outer:List Env} {L:Addr} (h:env.frame=some L):frs (env::outer)=L::frs outer:=by
 unfold frs
 rw [List.filterMap_cons,h]
section
variable {P:Program} {w:World} {H H':Hp} {h h1 h2 hm:Heap} {l l':List Addr} {B:Heap}
theorem HOk.flight (x:HOk P w H' h1) (hb:B.StaysIn h2) (hk:∀ b o,b ∉ l->((∃ o0,hm.get? b=some o0)\/∃ u,H' b=some u)->h1.get? b=some o->B.get? b=some o) (hl:∀ b∈l,H' b=none):HOk P w H' h2:=fun a o e=>by
 refine (x a o e).stay (fun b u hbb q=>hb b u (hk b u (fun z=>?_) (.inr ?_) q)) (fun _ z=>z) (fun _ _ z=>z)
 ·rcases hbb with rfl|hbb
  ·rw [hl _ z] at e;cases e
  ·rw [hl _ z] at hbb;cases hbb
 ·rcases hbb with rfl|hbb
  ·exact ⟨_,e⟩
  ·exact ⟨_,hbb⟩
theorem Un.flight {ex:List Addr} (u:Un l' ex H H' h h1) (hb:B.StaysIn h2) (sm:h1.UpToSlots h2) (hk:∀ b o,b ∉ l->((∃ o0,hm.get? b=some o0)\/∃ u,H' b=some u)->h1.get? b=some o->B.get? b=some o) (lt:∀ b o,h.get? b=some o->∃ o0,hm.get? b=some o0)
 (hl:∀ b∈l,b∈l'\/h.objs.size<=b) (hd:∀ b∈l,∀ o,h1.get? b=some o->∀ vs,o.data ≠ .fields vs):Un l' ex H H' h h2:=by
 refine ⟨fun b o e nn hb' hx=>?_,fun b o e nn hb' hx=>?_,u.free,fun b o e hx=>?_,u.tups,u.frzs,u.tbls⟩
 ·have q:=u.keep b o e nn hb' hx
  refine hb b o (hk b o (fun z=>?_) (.inl (lt b o e)) q)
  rcases hl b z with z|z
  ·exact hb' z
  ·exact absurd (Heap.lt_size e) (Nat.not_lt.mpr z)
 ·obtain ⟨sl,q⟩:=u.slot b o e nn hb' hx
  by_cases z:b∈l
  ·obtain ⟨sl',q'⟩:=sm b _ q (hd b z _ q)
   exact ⟨sl',q'⟩
  ·exact ⟨sl,hb b _ (hk b _ z (.inl (lt b o e)) q)⟩
 ·obtain ⟨o',q⟩:=u.there b o e hx
  by_cases z:b∈l
  ·obtain ⟨sl',q'⟩:=sm b _ q (hd b z _ q)
   exact ⟨_,q'⟩
  ·exact ⟨o',hb b _ (hk b _ z (.inl (lt b o e)) q)⟩
end
theorem FunFrames.data {base:Heap}:∀ {l:List Env},h.FunFrames base l->∀ b∈frs l,∃ o,h.get? b=some o/\(∀ vs,o.data ≠ .fields vs)/\base.get? b=none:=fun {l} hf b hb=>by
 obtain ⟨h1,o,h2,h3⟩:=hf.mem hb
 exact ⟨o,h2,h3,h1⟩
noncomputable def gCx (P:Program) (w:World) (K:PySem.W.Frag) (mg:Str->Option Value) (base:Heap) (N:List Str) (env:Env) (fn:Str->Bool) (A:Around) (outer:List Env) (s:Shared) (H:Hp) (E:XK):Cx where
 prog:=P
 w:=w
 K:=K
 mg:=mg
 base:=base
 A:=A.deeper env
 N:=N
 s₀:=s
 H₀:=H
 env:=env
 outer:=outer
 stack:=env::outer
 ex:=[]
 calm:=true
 fn:=fn
 pn:=[]
 xe:=fun e s'=>wpAny (model P w) (A.deeper env) (leaving env e) (fun _ s''=>CXo P w outer H s E e s'') (fun e' s''=>CXo P w outer H s E e' s'') s'
theorem Dc {w : World} {K : PySem.W.Frag} {mg : Str -> Option Value} {base : Heap} {N : List Str} {env : Env} {fn : Str -> Bool} {A : Around} {outer : List Env} {E : XK} {e : Value}
 (hloc : env.locals = s.heap.objs.size) (hf : env.frame = some s.heap.objs.size) (fl : FlyS (gCx P w K mg base N env fn A outer s H E) G H ρ C e s') (hE : ∀ G' H', Up G H G' H' -> E (.ref C) none H') : (gCx P w K mg base N env fn A outer s H E).xe e s' := by
  obtain ⟨σ, H₁, pins, s₁, a, rfl, I, way⟩ := fl
  have hfr : (A.deeper (env)).frames = some (env :: outer) := I.ok.frames
  have hst : frs (env :: outer) = s.heap.objs.size :: frs outer := A6 hf
  have old : ∀ b o, s.heap.get? b = some o -> ∃ o0, s₁.heap.get? b = some o0 := fun b o e => I.base.there b o e (by show b ∉ ([] : List Addr); simp)
  show wpAny (model P w) (A.deeper (env)) (leaving (env) (.ref a)) (fun _ s'' => CXo P w outer H s E (.ref a) s'') (fun e' s'' => CXo P w outer H s E e' s'') s'
  -- the end, from the heap behind
  have fin : ∀ {H' : Hp} {G' : Hp} {s' : Shared} {h'' B : Heap} {a0 : Value}, Inv (gCx P w K mg base N env fn A outer s H E) pins σ H' s' -> StR K G H G' H' σ ρ -> H' a = none -> Heap.FlyingW B outer a (.ref C) a0 h'' -> s'.heap.UpToSlots h'' ->
      (∀ b o, b ∉ s.heap.objs.size :: frs outer -> ((∃ o0, s₁.heap.get? b = some o0) \/ ∃ u, H' b = some u) -> s'.heap.get? b = some o -> B.get? b = some o) -> CXo P w outer H s E (.ref a) { s' with heap := h'' } := by
    intro H' G' s' h'' B a0 J up ha fl sm hk
    have J0 : H' s.heap.objs.size = none := by have q : H' env.locals = none := J.free; rw [hloc] at q; exact q
    have fr0 : ∀ b ∈ frs outer, H' b = none := fun b hb => J.stkFree b (by show b ∈ frs (env :: outer); rw [hst]; exact List.mem_cons_of_mem _ hb)
    have frA : ∀ b ∈ s.heap.objs.size :: frs outer, H' b = none := fun b hb => by
      rcases List.mem_cons.mp hb with rfl | hb
      · exact J0
      · exact fr0 b hb
    have dat : ∀ b ∈ s.heap.objs.size :: frs outer, ∀ o, s'.heap.get? b = some o -> ∀ vs, o.data ≠ .fields vs := fun b hb o e => by
      obtain ⟨o', e', d', _⟩ := FunFrames.data J.stack b (by show b ∈ frs (env :: outer); rw [hst]; exact hb)
      rw [e] at e'; cases e'; exact d'
    have hok : HOk P w H' h'' := J.hok.flight fl.1 hk frA
    have un : Un (frs outer) [] H H' s.heap h'' := Un.flight J.base fl.1 sm hk old (fun b hb => (List.mem_cons.mp hb).elim (fun z => .inr (by rw [z]; exact Nat.le_refl _)) .inl) dat
    refine ⟨a, C, H', rfl, ⟨J.os, J.bare, un, hok, ha, B, a0, fl, fun b o hb ho e => ?_⟩, hE G' H' up.up⟩
    have nb : b ∉ s.heap.objs.size :: frs outer := fun z => by
      rcases List.mem_cons.mp z with z | z
      · rcases ho with ⟨o0, ho⟩ | ⟨u, ho⟩
        · rw [z] at ho; exact Nat.lt_irrefl _ (Heap.lt_size ho)
        · rw [z, J0] at ho; cases ho
      · exact hb z
    have ho' : (∃ o0, s₁.heap.get? b = some o0) \/ ∃ u, H' b = some u := ho.imp (fun ⟨o0, z⟩ => old b o0 z) id
    have ex : ∃ o', s'.heap.get? b = some o' := by
      rcases ho with ⟨o0, ho⟩ | ⟨u, ho⟩
      · exact J.base.there b o0 ho (by show b ∉ ([] : List Addr); simp)
      · exact (J.hok b u ho).there
    obtain ⟨o', e'⟩ := ex
    have q := hk b o' nb ho' e'
    have q2 := fl.1 b o' q
    have e2 : h''.get? b = some o := e
    rw [q2] at e2
    cases e2
    exact q
  rcases way with ⟨G₁, h', vs, sr, made, rfl⟩ | ⟨G', H', ⟨os, bare, un, hok, ha, B, a0, fl, hk⟩, up⟩ | ⟨G', H', L', hL, ⟨os, bare, ⟨ch, hch, un⟩, hok, ha, _, B, a0, fl, hk⟩, up⟩
  · -- made here
    have J : Inv (gCx P w K mg base N env fn A outer s H E) pins σ H₁ { s₁ with heap := h' } := I.kept (t' := s₁.toks) made.keeps
    have hin : ∀ en ∈ (env :: outer), ∀ b, en.frame = some b -> b ∈ s.heap.objs.size :: frs outer := fun en he b hb => by
      rw [<- hst]; exact List.mem_filterMap.mpr ⟨en, he, hb⟩
    refine wpAny_leaves_madeW (base := PySem.W.hideAll s₁.heap (s.heap.objs.size :: frs outer)) hfr hf (fun b o q => PySem.W.of_hideAll _ q) (PySem.W.funFrames_hide I.stack hin) made fun h'' t fl' _ _ sm => ?_
    have ha : H₁ a = none := by
      cases q : H₁ a with
      | none => rfl
      | some u =>
        obtain ⟨ob, e⟩ := (I.hok a u q).there
        rw [made.new] at e; cases e
    refine fin J sr ha fl' sm fun b o hb ho e => ?_
    have e1 : s₁.heap.get? b = some o := by
      rcases ho with ⟨o0, ho⟩ | ⟨u, ho⟩
      · have q := made.keeps b o0 ho
        have e' : h'.get? b = some o := e
        rw [q] at e'; cases e'; exact ho
      · obtain ⟨ob, ho⟩ := (I.hok b u ho).there
        have q := made.keeps b ob ho
        have e' : h'.get? b = some o := e
        rw [q] at e'; cases e'; exact ho
    exact PySem.W.hideAll_get _ e1 hb
  · have J := I.call' (s' := s') (ch := []) os un hok bare (fun b z => absurd z (by simp))
    exact wpAny_leaves_onW hfr hf fl fun h'' fl' sm => fin J up ha fl' sm fun b o hb ho e => hk b o (by show b ∉ frs (env :: outer); rw [hst]; exact hb) ho e
  · have J := I.call' (s' := s') (ch := ch) os un hok bare hch
    have eL : s.heap.objs.size = L' := Option.some.inj (hf.symm.trans hL)
    rw [<- eL] at fl
    refine wpAny_bind (wpAny_noteFrame_againW hf fl.2.2.2 (wpAny_landsW fl fun h'' fl' sm => ?_))
    obtain ⟨k1, k2, ⟨_, _, k3⟩, k4⟩ := fl'
    exact fin J up ha ⟨k1, k2, k3, k4⟩ sm fun b o hb ho e => hk b o (by show b ∉ frs (env :: outer); rw [hst]; exact hb) ho e

theorem oz {w:World} {K:PySem.W.Frag} {mg:Str->Option Value} {base:Heap} {N:List Str} {cd:Value} {A:Around} {outer:List Env} {E:XK} {e:Value}
 (fl:FlyS (kQ (CXo P w) P w K mg base N qual scope f cd A outer s H E) G H ρ C e s') (hE:∀ G' H',Up G H G' H'->E (.ref C) none H'):(kQ (CXo P w) P w K mg base N qual scope f cd A outer s H E).xe e s':=
 Dc (env:=envOfC qual scope s.heap.objs.size f cd) (fn:=fun _=>true) rfl rfl fl hE
noncomputable def ar (n:Nat) (ds:List D):Ev:=ds.map (fun d=>some (.val d))++List.replicate (n - ds.length) none
noncomputable def au (o:O):R D:=match o with
 | .rt d=>.ok d
 | .re d _=>.ok d
 | .nx _=>.ok .non
 | .ex C _=>.ex C
 | _=>.no
theorem uH {K:PySem.W.Frag} {N:List Str} (sub:Same G H) (r:Reps K G vs ds):StR K G H G H (start N vs) (ar N.length ds):=by
 have hl:=r.length
 have get:∀ (i:Nat) x,(ar N.length ds)[i]?=some (some x)->∃ d,ds[i]?=some d/\x=.val d:=fun i x e=>by
  unfold ar at e
  by_cases hi:i<ds.length
  ·rw [List.getElem?_append_left (by simpa using hi),List.getElem?_map] at e
   cases q:ds[i]? with
   | none=>rw [q] at e;cases e
   | some d=>rw [q] at e;cases e;exact ⟨d,rfl,rfl⟩
  ·rw [List.getElem?_append_right (by simpa using hi),List.getElem?_replicate] at e
   split at e <;> cases e
 have no:NoOwn (ar N.length ds):=fun i x e=>by obtain ⟨d',_,q⟩:=get i _ e;exact ⟨d',q⟩
 refine ⟨⟨sub,by simp [start,ar,hl],fun i d e=>?_,fun i m C p fs e=>absurd e (no.obj i m C p fs)⟩,sub,.refl sub,fun i es e=>?_,fun i j es fs l e=>?_,no.ob⟩
 ·obtain ⟨d',e',q⟩:=get i _ e
  cases q
  obtain ⟨v,ev,rv⟩:=r.get e'
  refine ⟨v,?_,rv⟩
  unfold start
  rw [List.getElem?_append_left (by have:=(List.getElem?_eq_some_iff.mp ev).1;simpa using this),List.getElem?_map,ev]
  rfl
 ·obtain ⟨d',_,q⟩:=get i _ e;cases q
 ·obtain ⟨d',_,q⟩:=get i _ e;cases q
theorem nu:fillsNumberSlot (.type "tuple") "mul"=pure false:=
 PySem.fillsNumberSlot_seq (id:="tuple.__mul__") (r:=some (.builtin "tuple.__rmul__")) F.slot_tuple_mul.lookup (by decide +kernel) F.slot_tuple_rmul.lookup (by decide +kernel)
theorem Dw:seqRepeat? (.type "tuple")=pure (some (.builtin "tuple.__mul__")):=by
 unfold seqRepeat?
 rw [PySem.seqSlot_of (T:="tuple") (name:="__mul__") (id:="tuple.__mul__") F.slot_tuple_mul.lookup (by decide +kernel),PySem.seqSlot_of (T:="tuple") (name:="__rmul__") (id:="tuple.__rmul__") F.slot_tuple_rmul.lookup (by decide +kernel)]
 rfl
open Builtin in
theorem qg (a:Int) (t:Tok) (l:Addr) (items:Array Value) (n:Nat) (dd:Option Addr) (sl:Array (Option Value)) :
  Meets (Builtin.«int.__rmul__» ⟨[.int a t,.ref l],[]⟩) (fun _ Rr s=>s.heap.get? l=some { cls:=.type "tuple",dict:=dd,data:=.seq items n,slots:=sl }/\Rr (.ok (.ret Value.notImplemented)) s):=
 .of_wp fun prog w A Rr s h=>by obtain ⟨hp,g,d,tk,os⟩:=s;obtain ⟨hl,h⟩:=h;wp_walk;exact ⟨_,rfl,h⟩
section
open Builtin AutoSeq1
variable (l:Addr) (items:Array Value) (n:Nat) (dd:Option Addr) (sl:Array (Option Value)) (x:Int) (u:Tok) (h1:(decide (x < -(2 ^ 63)) || decide (x ≥ 2 ^ 63))=false)
include h1
theorem zv (hc:(items.isEmpty || x==1)=true) :
  Meets (Builtin.«tuple.__mul__» ⟨[.ref l,.int x u],[]⟩) (fun _ Rr s=>s.heap.get? l=some { cls:=.type "tuple",dict:=dd,data:=.seq items n,slots:=sl }/\Rr (.ok (.ret (.ref l))) s):=
 .of_wp fun prog w A Rr s h=>by
  obtain ⟨hp,g,d,tk,os⟩:=s;obtain ⟨hl,h⟩:=h
  have f1:=idx_int
  wp_walk
  refine wpAny_ite_false (by rw [h1];rfl) ?_
  refine wpAny_bind (tupleItemsOf_ (show IsTup hp l items from ⟨_,hl,rfl,n,rfl⟩) ?_)
  dsimp only
  rw [if_pos hc]
  unfold Tuple.tupleIsExact
  refine wpAny_bind (wpAny_bind (wpAny_typeOf ⟨_,hl,rfl⟩ (wpAny_pure ?_)))
  rw [if_pos (by decide)]
  exact wpAny_bind (wpAny_rule (wpAny_pure ⟨_,rfl,h⟩))
theorem Ay (hc : ¬ (items.isEmpty || x==1)=true) (h2:(decide (x<=0) || items.isEmpty)=true) :
  Meets (Builtin.«tuple.__mul__» ⟨[.ref l,.int x u],[]⟩) (fun _ Rr s=>s.heap.get? l=some { cls:=.type "tuple",dict:=dd,data:=.seq items n,slots:=sl }/\Rr (.ok (.ret (.ref s.heap.objs.size))) { s with heap:=s.heap.push { cls:=.type "tuple",data:=.seq #[] } }):=
 .of_wp fun prog w A Rr s h=>by
  obtain ⟨hp,g,d,tk,os⟩:=s;obtain ⟨hl,h⟩:=h
  have f1:=idx_int
  wp_walk
  refine wpAny_ite_false (by rw [h1];rfl) ?_
  refine wpAny_bind (tupleItemsOf_ (show IsTup hp l items from ⟨_,hl,rfl,n,rfl⟩) ?_)
  dsimp only
  rw [if_neg hc,if_pos h2]
  exact wpAny_bind (m:=Builtin.Tuple.tupleExact _) (wpAny_newObj_type (wpAny_pure ⟨_,rfl,h⟩) (Nat.zero_le _))
theorem AS (hc : ¬ (items.isEmpty || x==1)=true) (h2 : ¬ (decide (x<=0) || items.isEmpty)=true) (hz:items.size * x.toNat<=sizeLine) :
  Meets (Builtin.«tuple.__mul__» ⟨[.ref l,.int x u],[]⟩) (fun _ Rr s=>s.heap.get? l=some { cls:=.type "tuple",dict:=dd,data:=.seq items n,slots:=sl }/\
   Rr (.ok (.ret (.ref s.heap.objs.size))) { s with heap:=s.heap.push { cls:=.type "tuple",data:=.seq (List.foldl (fun x1 x2=>x1++x2) #[] (List.replicate x.toNat items)) } }):=
 .of_wp fun prog w A Rr s h=>by
  obtain ⟨hp,g,d,tk,os⟩:=s;obtain ⟨hl,h⟩:=h
  have f1:=idx_int
  have hx:0<x:=by
   cases q:decide (x<=0) with
   | true=>rw [q] at h2;exact absurd rfl h2
   | false=>exact Int.not_le.mp (of_decide_eq_false q)
  have ez:(items.size:Int) * x=((items.size * x.toNat:Nat):Int):=by
   rw [Int.natCast_mul,Int.toNat_of_nonneg (Int.le_of_lt hx)]
  have hlim:(sizeLine:Nat)<=(2 ^ 63 - 1) / 8:=by decide
  have h3 : ¬ ((items.size:Int) * x > (2 ^ 63 - 1) / 8):=by
   rw [ez]
   have:((sizeLine:Nat):Int)<=(2 ^ 63 - 1) / 8:=by decide
   omega
  have h4 : ¬ (Tuple.tupleTooMany ((items.size:Int) * x)=true):=by
   unfold Tuple.tupleTooMany
   rw [ez]
   intro q
   have:=of_decide_eq_true q
   omega
  have hfz:(List.foldl (fun x1 x2=>x1++x2) #[] (List.replicate x.toNat items)).size<=sizeLine:=by
   have e:=iR items.toList x.toNat []
   simp only [List.nil_append,Array.toArray_toList] at e
   rw [e,List.size_toArray,pI,Array.length_toList,Nat.mul_comm]
   exact hz
  wp_walk
  refine wpAny_ite_false (by rw [h1];rfl) ?_
  refine wpAny_bind (tupleItemsOf_ (show IsTup hp l items from ⟨_,hl,rfl,n,rfl⟩) ?_)
  dsimp only
  rw [if_neg hc,if_neg h2,if_neg h3,if_neg h4]
  exact wpAny_bind (m:=Builtin.Tuple.tupleExact _) (wpAny_newObj_type (wpAny_pure ⟨_,rfl,h⟩) hfz)
end
section
variable {X:Cx}
noncomputable def EB (K:PySem.W.Frag):R2:=fun x y H Q=>∃ l k xs,x=.ref l/\y=.int k/\SqT K H l xs/\-(2 ^ 63)<=k/\k<2 ^ 63/\xs.length * k.toNat<=sizeLine/\
 (xs=[]\/k=1->Q (.ref l) H)/\(xs≠[]->k≠1->∀ p,H p=none->Q (.ref p) (upd H p (.tup (List.replicate k.toNat xs).flatten)))
theorem op_repT:OpR X (binaryOp .Mult) (EB X.K):=by
 intro pins s σ H x y v u Q I rx ry h
 obtain ⟨l,k,xs,rfl,rfl,hH,h1,h2,hz,q0,q1⟩:=h
 cases rx
 obtain ⟨t,rfl⟩:=ry
 obtain ⟨its,r,p,hzz⟩:=I.tuple hH
 obtain ⟨⟨cls,dd,data,sl⟩,ho,hc,n,hd⟩:=id p
 simp only at hc hd
 subst hc hd
 have hlen:its.length=xs.length:=r.length.symm
 have hin:(decide (k < -(2 ^ 63)) || decide (k ≥ 2 ^ 63))=false:=by
  rw [decide_eq_false (by omega),decide_eq_false (by omega)];rfl
 have emp:its.toArray.isEmpty=decide (xs=[]):=by
  cases its with
  | nil=>cases r;rfl
  | cons a b=>cases r;rfl
 refine wpAny_binaryOp_repeat_ref (T:="tuple") (U:="int") (by decide) ⟨_,ho,rfl⟩ (fun s'=>typeIs_int s' k t) nu F.fills_int_mul F.slot_int_rmul Dw F.slot_int_index.lookup
  (call_meets F.slot_int_rmul (typeIs_int s k t) F.entry_int_rmul (F.args_int_rmul_2 _ _) (qg k t l its.toArray n dd sl) ⟨ho,rfl,⟨_,ho,rfl⟩,?_⟩)
 by_cases hc:(its.toArray.isEmpty || k==1)=true
 ·refine call_meets F.slot_tuple_mul ⟨_,ho,rfl⟩ F.entry_tuple_mul (F.args_tuple_mul_2 _ _) (zv l its.toArray n dd sl k t hin hc) ⟨ho,.ref l,H,I,rfl,q0 ?_⟩
  rw [emp] at hc
  simpa using hc
 ·have hne:xs≠[]/\k≠1:=by
   rw [emp] at hc
   simpa using hc
  have fin:∀ its',its'=(List.replicate k.toNat its).flatten->EP X pins σ Q (.ref s.heap.objs.size) { s with heap:=s.heap.push { cls:=.type "tuple",data:=.seq its'.toArray } }:=fun its' e=>by
   subst e
   refine ⟨.ref s.heap.objs.size,_,I.laid (t':=s.toks) (o:=.tup (List.replicate k.toNat xs).flatten) (fun b ob q=>Heap.get?_push_of_some _ q) (Nat.le_refl _) ?_,rfl,q1 hne.1 hne.2 _ I.fresh⟩
   exact ⟨by rw [pI,Nat.mul_comm];exact hz,_,r.rep k.toNat,IsTup.new _ _⟩
  by_cases h0:(decide (k<=0) || its.toArray.isEmpty)=true
  ·refine call_meets F.slot_tuple_mul ⟨_,ho,rfl⟩ F.entry_tuple_mul (F.args_tuple_mul_2 _ _) (Ay l its.toArray n dd sl k t hin hc h0) ⟨ho,?_⟩
   refine fin [] ?_
   have:k<=0:=by
    rw [emp,decide_eq_false hne.1,Bool.or_false] at h0
    exact of_decide_eq_true h0
   rw [Int.toNat_of_nonpos this]
   rfl
  ·refine call_meets F.slot_tuple_mul ⟨_,ho,rfl⟩ F.entry_tuple_mul (F.args_tuple_mul_2 _ _) (AS l its.toArray n dd sl k t hin hc h0 (by rw [List.size_toArray,hlen];exact hz)) ⟨ho,?_⟩
   have e:=iR its k.toNat []
   simp only [List.nil_append] at e
   rw [e]
   exact fin _ rfl
theorem CL (x:Str) (n:Int):(Txt.mul x n).cps.toList=(List.replicate n.toNat x.cps.toList).flatten:=by
 unfold Txt.mul
 by_cases h1:n<1
 ·rw [if_pos h1,Int.toNat_of_nonpos (by omega)];rfl
 ·rw [if_neg h1]
  by_cases h2:(n==1 || x.length==0)=true
  ·rw [if_pos h2]
   rcases Bool.or_eq_true_iff.mp h2 with h|h
   ·have:n=1:=by simpa using h
    subst this
    show _=(List.replicate 1 x.cps.toList).flatten
    simp
   ·have:x.cps.toList=[]:=List.eq_nil_of_length_eq_zero (by rw [Str.len_list];simpa using h)
    rw [this];simp
  ·rw [if_neg h2]
   have:∀ (m:Nat) (acc:Array Nat),((List.replicate m x.cps).foldl (·++·) acc).toList=acc.toList++(List.replicate m x.cps.toList).flatten:=by
    intro m
    induction m with
    | zero=>intro acc;simp
    | succ m ih=>intro acc;rw [List.replicate_succ,List.foldl_cons,ih,List.replicate_succ,List.flatten_cons];simp
   simpa using this n.toNat #[]
theorem op_mul_str:OpR X (binaryOp .Mult) (fun x y H Q=>∃ (i:Str) (k:Int),x=.str i/\y=.int k/\-(2 ^ 63)<=k/\k<2 ^ 63/\i.length * k.toNat<=sizeLine/\Q (.str (Txt.mul i k)) H):=by
 intro pins s σ H x y v u Q I rx ry h
 obtain ⟨i,k,rfl,rfl,h1,h2,hz,q⟩:=h
 obtain ⟨t,rfl⟩:=rx
 obtain ⟨t',rfl⟩:=ry
 refine SB.mul ⟨by rw [decide_eq_false (by omega),decide_eq_false (by omega)];rfl,fun h3 h4=>?_,fun h3 h4=>?_⟩ fun t'' n=>⟨.str _,H,I.tok _,⟨_,rfl⟩,q⟩
 ·have hk:0<k:=by omega
  intro h5
  have h6:(2 ^ 63 - 1) / k * k<=2 ^ 63 - 1:=Int.ediv_mul_le _ (by omega)
  have h7:(((i.length * k.toNat:Nat)):Int)=(i.length:Int) * k:=by rw [Int.natCast_mul,Int.toNat_of_nonneg (by omega)]
  have h8:((2 ^ 63 - 1) / k+1) * k<=(i.length:Int) * k:=Int.mul_le_mul_of_nonneg_right (by omega) (by omega)
  have h9:2 ^ 63 - 1<((2 ^ 63 - 1) / k+1) * k:=Int.lt_ediv_add_one_mul_self _ hk
  have h10:((sizeLine:Nat):Int)<2 ^ 63 - 1:=by decide
  omega
 ·unfold Builtin.Str.tooLong
  exact decide_eq_false (by omega)
noncomputable def jB:D->D->Option D
 | .int i,.int j=>if (-(2 ^ 64)<i/\i<2 ^ 64)\/(-(2 ^ 64)<j/\j<2 ^ 64) then some (.int (i * j)) else none
 | .str x,.int k=>if -(2 ^ 63)<=k/\k<2 ^ 63/\x.length * k.toNat<=sizeLine then some (.str (List.replicate k.toNat x).flatten) else none
 | .tup xs,.int k=>if -(2 ^ 63)<=k/\k<2 ^ 63/\xs.length * k.toNat<=sizeLine then some (.tup (List.replicate k.toNat xs).flatten) else none
 | .lst false xs,.int k=>if -(2 ^ 63)<=k/\k<2 ^ 63/\xs.length * k.toNat<=sizeLine then some (.lst false (List.replicate k.toNat xs).flatten) else none
 | _,_=>none
noncomputable def GB (K:PySem.W.Frag):R2:=fun x y H Q=>rI CMul (fun i j=>.int (i * j)) x y H Q\/(∃ (i:Str) (k:Int),x=.str i/\y=.int k/\-(2 ^ 63)<=k/\k<2 ^ 63/\i.length * k.toNat<=sizeLine/\Q (.str (Txt.mul i k)) H)\/EB K x y H Q\/JF x y H Q
theorem Dv:OpR X (binaryOp .Mult) (GB X.K):=op_mul.or (op_mul_str.or (op_repT.or EA))
theorem Ft (K:PySem.W.Frag):ROk K (GB K) jB:=by
 intro G H x y dx dy d Q s rx ry e q
 unfold jB at e
 split at e
 ·split at e
  ·rename_i hc
   cases e
   exact .inl ⟨_,_,rx.int_inv,ry.int_inv,hc,q _ G H (.refl s) (.int _)⟩
  ·cases e
 ·split at e
  ·rename_i hc
   cases e
   obtain ⟨i,rfl,ei,hi⟩:=rx.str_inv
   subst ei
   rw [Str.len_list] at hc
   exact .inr (.inl ⟨i,_,rfl,ry.int_inv,hc.1,hc.2.1,hc.2.2,q _ G H (.refl s) (.strL (CL i _) (by rw [pI,Str.len_list,Nat.mul_comm];exact hc.2.2))⟩)
  ·cases e
 ·split at e
  ·rename_i k hc
   cases e
   obtain ⟨a,vs,rfl,ha,ra⟩:=rx.tup_inv
   refine .inr (.inr (.inl ⟨a,_,vs,rfl,ry.int_inv,ha.mono s,hc.1,hc.2.1,by rw [ra.length];exact hc.2.2,fun z=>?_,fun _ _ p hp=>q _ _ _ (.new s hp) (.tup (.of aS) ((ra.rep _).mono (.into (s.free hp))))⟩))
   rcases z with z|z
   ·subst z
    cases ra
    have e:(List.replicate k.toNat ([]:List D)).flatten=[]:=by simp
    rw [e] at q
    exact q _ G H (.refl s) (.tup ha .nil)
   ·subst z
    have e:∀ l:List D,(List.replicate (1:Int).toNat l).flatten=l:=fun l=>by show (List.replicate 1 l).flatten=l;simp
    rw [e] at q
    exact q _ G H (.refl s) (.tup ha ra)
  ·cases e
 ·split at e
  ·rename_i hc
   cases e
   obtain ⟨a,vs,rfl,ha,ra⟩:=rx.lst_inv
   exact .inr (.inr (.inr ⟨a,_,vs,rfl,ry.int_inv,s _ _ ha,hc.1,hc.2.1,by rw [ra.length];exact hc.2.2,fun p hp=>q _ _ _ (.new s hp) (.lst aS ((ra.rep _).mono (.into (s.free hp))))⟩))
  ·cases e
 ·cases e
end
end L2
namespace L2
open PySem PySem.W PySem.Spec PySem.Calls PyProof.Rows
structure ExcCls (K:Frag) (C:Addr):Prop where
 ga:findIn K (.ref C) "__getattribute__"=some (some (.builtin "BaseException.__getattribute__"))
 gt:findIn K (.ref C) "__getattr__"=some none
 cl:findIn K (.ref C) "__class__"=some (some (.builtin "object.__class__"))
 sp:specialIn K (.builtin "object.__class__") "__get__"=some (some (.builtin "getset_descriptor.__get__"))
 tk:takesIn K (.builtin "object.__class__")=some true
 mo:mroIn K C (.type "object")=some true
 be:subIn K (.ref C) (.type "BaseException")=some true
 some:(clsIn K C).isSome=true
section
variable {prog:Program} {w:World} {A:Around} {E:Value->Shared->Prop} {s:Shared} {K:Frag} {a C:Addr}
section
open Builtin Builtin.ObjectAttr Builtin.Getset_descriptor
end
end
section
variable {X:Cx} {pins:List (Addr×Obj)} {σ:St} {G H:Hp} {s:Shared} {A:Around} {E:Value->Shared->Prop} {Q:Value->Shared->Prop}
noncomputable def tyN:D->Option String
 | .non=>some "NoneType"
 | .bl _=>some "bool"
 | .int _=>some "int"
 | .str _=>some "str"
 | .tup _=>some "tuple"
 | .lst _ _=>some "list"
 | .exc _=>none
 | .dct _ _=>none
theorem EH {x:V} {c:Value} {T:String} {b:Bool} (I:Inv X pins σ H s) (sub:Same G H) (r:Rep X.K G x d) (ru:RelV x u) (ht:tyN d=some T) (e:kitOne X.K (.type T) c=some b) (h:∀ tk,Q (.bool b) { s with toks:=tk }) :
  wpAny (model X.prog X.w) A (call (.builtin "isinstance") [u,c]) Q E s:=by
 cases r with
 | non=>cases ht;cases ru;exact kia_one kitx_none I.kIn True.intro e (fun z=>nomatch z) h
 | bl y=>cases ht;cases ru;exact kia_one kitx_bool I.kIn True.intro e (fun z=>nomatch z) h
 | int i=>cases ht;obtain ⟨t,rfl⟩:=ru;exact kia_one kitx_int I.kIn True.intro e (fun z=>nomatch z) h
 | str y hy=>cases ht;obtain ⟨t,rfl⟩:=ru;exact kia_one kitx_str I.kIn True.intro e (fun z=>nomatch z) h
 | tup hh t=>
  cases ht;cases ru
  obtain ⟨its,rv,⟨o,h1,h2,_⟩,_⟩:=I.tuple (hh.mono sub)
  exact kia_one kitx_tuple I.kIn ⟨o,h1,h2⟩ e (fun z=>nomatch z) h
 | lst hh t=>
  cases ht;cases ru
  obtain ⟨its,rv,⟨o,n,h1,h2,_⟩,_⟩:=I.list ((SqL.of hh:SqL X.K G _ _).mono sub)
  exact kia_one kitx_list I.kIn ⟨o,h1,h2⟩ e (fun z=>nomatch z) h
 | fls hh t=>
  cases ht;cases ru
  obtain ⟨its,rv,⟨o,n,h1,h2,_⟩,_⟩:=I.list (hh.mono sub)
  exact kia_one kitx_list I.kIn ⟨o,h1,h2⟩ e (fun z=>nomatch z) h
 | exc hh=>cases ht
 | dct _ _ _=>cases ht
end
section
variable {X:Cx} {e:Expr} {ga:Ev->R D} {y:Str} {p p2 pos:Pos}
noncomputable def iV (f:String->Bool) (d:D):R D:=match tyN d with
 | some t=>.ok (.bl (f t))
 | none=>.no
theorem gH {T:String} (f:String->Bool) (hf:∀ K:Frag,∀ t∈["NoneType","bool","int","str","tuple","list"],kitOne K (.type t) (.type T)=some (f t)) (hg:Gl X "isinstance") (hm:X.mg "isinstance"=none) (hg2:Gl X y) (hm2:X.mg y=none)
 (hv:bootBuiltins y=some (.type T)) (ha:QF X e ga) (hs1:starEach [e,.Name y p2] X.env=(false,eval e X.env)::starEach [.Name y p2] X.env:=by rfl)
 (hn:y ≠ "__name__":=by decide) (hdb:(y==("__debug__":Str))=false:=by decide) :
  QF X (.Call (.Name "isinstance" p) [e,.Name y p2] [] pos) (fun ρ=>ga ρ>>=iV f):=by
 intro pins s σ H Q I h
 have hc:kP X (.builtin "isinstance") (fun xs H Q=>∃ x G d,xs=[x,.ty T]/\Same G H/\Rep X.K G x d/\∃ t,tyN d=some t/\Q (.bl (f t)) H):=by
  intro pins s σ H xs us Q I r ⟨x,G,d,ex,sub,rd,t,et,q⟩
  subst ex
  obtain ⟨u,u2,rfl,r1,r2⟩:=r.two
  cases r2
  refine EH I sub rd r1 et (hf X.K t ?_) fun tk=>⟨.bl (f t),H,I.tok tk,rfl,q⟩
  cases d <;> cases et <;> simp
 refine uY hc hg hm PyProof.Rows.Boot.«isinstance» (fN ha (fN (B4 (v:=.ty T) hg2 hm2 hv rfl hn hdb) lC) hs1) (by decide) (by decide) hs1 rfl pins s σ H Q I ?_
 obtain ⟨G,ρ,st,h⟩:=h
 refine tG.intro st h fun x v G1 H1 u1 st1 r1 h1=>?_
 refine ⟨v,G1,x,rfl,st1.sub,r1,?_⟩
 unfold iV at h1
 cases et:tyN x with
 | none=>rw [et] at h1;exact h1.elim
 | some t=>rw [et] at h1;exact ⟨t,rfl,h1 _ G1 H1 (.refl st1.sub) (.bl _)⟩
end
end L2
namespace L2
open PySem PySem.Spec PyProof.Rows
noncomputable def zn:List D->Option (List Bool)
 | []=>some []
 | .bl b::ds=>(zn ds).map (b::·)
 | _=>none
theorem Reps.bls {K:PySem.W.Frag}:∀ {vs:List V} {ds:List D} {bs:List Bool},Reps K G vs ds->zn ds=some bs->vs=bs.map .bl
 | _,_,bs,.nil,e=>by cases e;rfl
 | _,_,bs,.cons r t,e=>by
  cases r with
  | bl b=>
   rename_i ds
   unfold zn at e
   cases q:zn ds with
   | none=>rw [q] at e;cases e
   | some cs=>rw [q] at e;cases e;rw [Reps.bls t q];rfl
  | _=>simp [zn] at e
theorem Vals.bls:∀ {bs:List Bool} {us:List Value},Vals (bs.map V.bl) us->us=bs.map Value.bool
 | [],_,.nil=>rfl
 | b::bs,_,.cons r t=>by rw [Vals.bls t,show _=Value.bool b from r];rfl
section
variable {X:Cx} {e o:Expr} {es:List Expr} {ga gb:Ev->R D} {gl:Ev->R (List D)} {pos:Pos}
noncomputable def Kw (K:PySem.W.Frag) (f:List Bool->Bool):List V->Hp->VK->Prop:=fun xs H Q=>∃ p bs,xs=[.ref p]/\SqL K H p (bs.map V.bl)/\Q (.bl (f bs)) H
theorem ym (A:Around) (prog:Program) (w:World) (bs:List Bool):TruthOf prog w A (fun i v=>(bs.map Value.bool).toArray[i]?=some v) (fun i=>bs.getD i true):=by
 intro i v s Q E hP hQ
 rw [List.getElem?_toArray,List.getElem?_map] at hP
 cases q:bs[i]? with
 | none=>rw [q] at hP;cases hP
 | some b=>
  rw [q] at hP
  cases hP
  have e:bs.getD i true=b:=by rw [List.getD_eq_getElem?_getD,q];rfl
  have hQ:Q (bs.getD i true) s:=hQ
  rw [e] at hQ
  exact wpAny_truthy_bool hQ
theorem yT (hc:X.calm=true):kP X (.builtin "all") (Kw X.K fun bs=>bs.all id):=by
 intro pins s σ H xs us Q I r ⟨p,bs,ex,hs,q⟩
 subst ex
 obtain ⟨u,rfl,r1⟩:=r.one
 cases r1
 obtain ⟨its,rv,pl,hz⟩:=I.list hs
 obtain rfl:=rv.bls
 have hh:X.A.in1.handled=none:=I.ok.hd hc
 have hlt:p<s.heap.objs.size:=by obtain ⟨o,n,e,_⟩:=id pl;exact Heap.lt_size e
 refine call_all_walk (wpAny_pyIter_list pl.isList ?_)
 refine ⟨s.heap.objs.size,[s.heap.objs.size,p],[s.heap.objs.size],_,_,_,fun i=>bs.getD i true,rfl,Walks.list hh s.heap.objs.size p (Nat.ne_of_lt hlt) (bs.map Value.bool).toArray,⟨⟨_,Heap.get?_push_size _ rfl,rfl,rfl⟩,?_⟩,ym _ _ _ bs,fun h' tk hk=>?_⟩
 ·obtain ⟨o,n,e,c,_,d⟩:=id pl
  exact ⟨o,Heap.get?_push_of_some _ e,c,n,d⟩
 ·have e:(List.range (bs.map Value.bool).toArray.size).all (fun i=>bs.getD i true)=bs.all id:=by
   rw [List.size_toArray,List.length_map];exact lr rfl
  rw [e]
  refine ⟨.bl _,H,I.kept (t':=tk) fun b o eb=>hk b o (fun z=>?_) (Heap.get?_push_of_some _ eb),rfl,q⟩
  have:b=s.heap.objs.size:=by simpa using z
  exact Nat.lt_irrefl _ (this ▸ Heap.lt_size eb)
noncomputable def Bb:List D->Option D
 | [.lst _ ds]=>(zn ds).map fun bs=>.bl (bs.all id)
 | _=>none
theorem zC (hc:X.calm=true) (hg:Gl X "all") (hm:X.mg "all"=none) (ha:QFA X [e] gl) (he:starEach [e] X.env=[(false,eval e X.env)]:=by rfl):QF X (.Call (.Name "all" p) [e] [] pos) (fun ρ=>gl ρ>>=fun ds=>ofO (Bb ds)):=
 jJ (yT hc) (by
  intro G H xs ds d Q s r e q
  unfold Bb at e
  split at e
  ·rename_i f ds
   obtain ⟨v,rfl,r1⟩:=r.one
   obtain ⟨a,vs,rfl,h,t⟩:=r1.seq_inv
   cases eb:zn ds with
   | none=>rw [eb] at e;cases e
   | some bs=>
    rw [eb] at e
    cases e
    obtain rfl:=t.bls eb
    exact ⟨a,bs,rfl,h.mono s,q _ G H (.refl s) (.bl _)⟩
  ·cases e) hg hm PyProof.Rows.Boot.«all» ha (he:=by rw [he];rfl)
noncomputable def Js (K:PySem.W.Frag) (T:String) (r:V->List V->Hp->VK->Prop) (f:D->List D->Option D):Prop:=∀ (G H:Hp) (x:V) (xs:List V) (dx:D) (ds:List D) (d:D) (Q:VK),Same G H->Rep K G x dx->Reps K G xs ds->f dx ds=some d->Fin G H (Rep K) Q d->r x xs H Q
noncomputable def qF (T:String):D->Bool
 | .str _=>T=="str"
 | .lst _ _=>T=="list"
 | _=>false
end
noncomputable def pS:List Nat->List D->Ev->R Ev
 | [],[],ρ=>.ok ρ
 | i::is,d::ds,ρ=>pS is ds (ρ.set i (some (.val d)))
 | _,_,_=>.no
theorem nU:∀ (is:List Nat) (ds:List D) (ρ:Ev) (C:Addr),pS is ds ρ ≠ .ex C
 | [],[],_,_=>by intro z;cases z
 | [],_::_,_,_=>by intro z;cases z
 | _::_,[],_,_=>by intro z;cases z
 | i::is,d::ds,ρ,C=>nU is ds _ C
section
variable {X:Cx} {e:Expr} {es:List Expr} {ga:Ev->R D} {gl:Ev->R (List D)} {pos:Pos}
noncomputable def GO (X:Cx) (es:List Expr) (is:List Nat):Prop:=PGs X es (fun vs σ H Q=>∃ G₀ H₀ G ρ ds ρ',StR X.K G₀ H₀ G H σ ρ/\Reps X.K G vs ds/\pS is ds ρ=.ok ρ'/\∀ σ',StR X.K G₀ H₀ G H σ' ρ'->Q σ' H)
theorem ur:GO X [] []:=by
 intro pins s σ H vs us Q I r h
 obtain ⟨G₀,H₀,G,ρ,ds,ρ',sr,rd,e,q⟩:=h
 refine zb pins s σ H vs us Q I r ?_
 cases rd with
 | nil=>cases e;exact ⟨rfl,q σ sr⟩
 | cons _ _=>cases e
theorem iX (i:Nat) {is:List Nat} (hN:X.N.Nodup) (h2:GO X es is) (hi:X.N[i]?=some x:=by rfl) (hx:Loc X.env.scope x:=by first|exact Or.inl rfl|exact Or.inr rfl)
 (hs:(assignEach (.Name x p::es) X.env).map (·.2)=assign (.Name x p) X.env::(assignEach es X.env).map (·.2):=by rfl) (hf:X.fn x=true\/X.env.scope.names.lookup x=some .local:=by first|exact .inl rfl|exact .inr rfl) :
  GO X (.Name x p::es) (i::is):=by
 intro pins s σ H vs us Q I r h
 obtain ⟨G₀,H₀,G,ρ,ds,ρ',sr,rd,e,q⟩:=h
 refine uD (jH (i:=i) hN hi hx hf) h2 hs pins s σ H vs us Q I r ?_
 cases rd with
 | nil=>cases e
 | cons r1 t1=>exact ⟨_,_,rfl,G₀,H₀,G,_,_,ρ',sr.set r1 i,t1,e,q⟩
noncomputable def Dh (is:List Nat) (d:D) (ρ:Ev):R Ev:=match d with
 | .tup ds=>pS is ds ρ
 | _=>.no
theorem qU:∀ (is:List Nat) (ds:List D) (ρ ρ':Ev),pS is ds ρ=.ok ρ'->ds.length=is.length
 | [],[],_,_,_=>rfl
 | [],_::_,_,_,e=>by cases e
 | _::_,[],_,_,e=>by cases e
 | i::is,d::ds,ρ,ρ',e=>by simp [qU is ds _ ρ' e]
theorem yt {is:List Nat} (hc:X.calm=true) (h:GO X es is) (hn:(assignEach es X.env).length=is.length:=by rfl) (hst:(assignEach es X.env).findIdx? (·.1)=none:=by rfl):PGF X (.Tuple es k pos) (Dh is):=by
 intro pins s σ H v u Q I r q
 obtain ⟨G₀,H₀,G,ρ,d,ρ',sr,rd,e,q⟩:=q
 refine Bl hc h hn hst pins s σ H v u Q I r ?_
 cases rd with
 | tup hh t=>
  rename_i ds
  exact ⟨_,_,rfl,hh.mono sr.e.sub,by rw [t.length];exact qU is ds ρ ρ' e,G₀,H₀,G,ρ,ds,ρ',sr,t,e,q⟩
 | _=>cases e
theorem rB (is:List Nat):∀ (d:D) (ρ:Ev) (C:Addr),Dh is d ρ ≠ .ex C:=fun d ρ C=>by
 cases d with
 | tup ds=>exact nU is ds ρ C
 | _=>intro z;cases z
theorem vU (i j:Nat) {y:Str} {a b:Expr} {px py pt pt2:Pos} {k2:Nat} (hc:X.calm=true) (hN:X.N.Nodup) (ha:QFA X [a,b] gl) (hij:i≠j) (hi:X.N[i]?=some x:=by rfl) (hj:X.N[j]?=some y:=by rfl)
 (hx:X.env.scope.names.lookup x=some .local:=by rfl) (hy:X.env.scope.names.lookup y=some .local:=by rfl)
 (hw:swappedStores [.Tuple [.Name x px,.Name y py] kt pt] (.Tuple [a,b] k2 pt2) X.env=pure (some [x,y]):=by rfl)
 (hs:swapsWithSole [.Tuple [.Name x px,.Name y py] kt pt] (.Tuple [a,b] k2 pt2) pos.line X.env=pure false:=by rfl) :
  QSF X (.Assign [.Tuple [.Name x px,.Name y py] kt pt] (.Tuple [a,b] k2 pt2) pos) (fun ρ=>(gl ρ).out ρ fun ds=>(pS [i,j] ds ρ).out ρ .nx):=fun G₀ H₀ pins s σ H D I h=>by
 refine FN hc hN hi hj hij hx hy ha hw hs pins s σ H D I ?_
 obtain ⟨G,ρ,sr,h⟩:=h
 dsimp only at h
 refine ⟨G,ρ,sr.e,?_⟩
 cases q:gl ρ with
 | ok ds=>
  rw [q] at h
  simp only [R.out] at h
  intro vs G' H' u r
  cases r with
  | nil=>exact h.elim
  | cons r1 t1=>
   cases t1 with
   | nil=>exact h.elim
   | cons r2 t2=>
    cases t2 with
    | nil=>exact ⟨_,_,rfl,h _ G' H' (((sr.ups u).set r1 i).set r2 j)⟩
    | cons _ _=>exact h.elim
 | ex C=>rw [q] at h;exact Exx.of sr h
 | no=>rw [q] at h;exact h
theorem qS {np cp:Pos} {bm:List Value} {B newId initId:String} (Oc:OwnCls x C bm newId X.mg X.base) (FB:ExcBaseFacts B newId initId bm) (hh:X.A.handled=none) (hg:Gl X x) (ha:QFA X [e] gl)
 (hdb:(x==("__debug__":Str))=false:=by decide) (hs:starEach [e] X.env=(false,eval e X.env)::starEach [] X.env:=by rfl) (hz:∀ ρ ds,gl ρ=.ok ds->ds.length<=1:=by intro _ _ z;first|(cases z;decide)|skip) :
  QSF X (.Raise (some (.Call (.Name x np) [e] [] cp)) none pos) (fun ρ=>(gl ρ).out ρ fun _=>.ex C ρ):=fun G₀ H₀ pins s σ H D I h=>by
 obtain ⟨G,ρ,sr,h⟩:=h
 dsimp only at h
 obtain ⟨tl,N,nm,qn,bs,hdct,sn,sub,ab,col,dd,k0,k1,k2,k3,k5,mN,hC,hN,hni,T⟩:=Oc.obj
 refine wpAny_Raise_call_subT (C:=C) (nm:=nm) (q:=qn) (N:=N) (bs:=bs) (bm:=tl) (hdct:=hdct) (sn:=sn) (sub:=sub) (ab:=ab) (col:=col) (dd:=dd) (k0:=k0) (k1:=k1) (k2:=k2) (k3:=k3) (k5:=k5)
  FB (mN:=mN) (T.hasType FB.hasBase) hh (by rw [hs];rfl) hni (pe I hg Oc.bound ⟨rfl,?_⟩ hdb)
 have t:tAF X gl σ H (fun vs H1=>vs.length<=sizeLine/\∃ G1,Up G H G1 H1/\nh X G₀ H₀ D (.ex C ρ)):=by
  refine ⟨G,ρ,sr.e,?_⟩
  cases q:gl ρ with
  | ok ds=>
   rw [q] at h
   intro vs G1 H1 u r
   exact ⟨by rw [r.length];exact Nat.le_trans (hz ρ ds q) (by decide),G1,u,h⟩
  | ex C'=>rw [q] at h;exact Exx.of sr h
  | no=>rw [q] at h;exact h
 have hA:=ha cp pins s σ H _ I t
 rw [hs] at hA ⊢
 refine Calls.evalArgs_plain (wpAny_mono hA (fun vs s₂ q=>?_) fun _ _ y=>y)
 obtain ⟨vs',H1,I1,r,hz,G1,u,h⟩:=q
 exact ⟨rfl,by show vs.length<=sizeLine;rw [<- r.length];exact hz,I1.bk _ _ hC,hN.keeps I1.bk,T.keeps I1.bk,fun h' a made=>h _ _ (.of (sr.ups u) ⟨pins,s₂,a,rfl,I1,.inl ⟨h',vs,made,rfl⟩⟩)⟩
end
section
variable {X:Cx} {pins:List (Addr×Obj)} {σ:St} {H:Hp} {s:Shared}
theorem Inv.cx {A':Around} {calm':Bool} {pn' pins':List (Addr×Obj)} {xe':Value->Shared->Prop} (I:Inv X pins σ H s) (hp:∀ p∈pn'++pins',p∈X.pn++pins) (hA:A'.frames=X.A.frames) (hd:calm'=true->A'.handled=none) :
  Inv { X with A:=A',calm:=calm',pn:=pn',xe:=xe' } pins' σ H s:=
 ⟨⟨I.ok.mod,I.ok.kind,I.ok.glob,I.ok.blt,I.ok.above,I.ok.inj,I.ok.has,I.ok.cab,hd,hA.trans I.ok.frames,I.ok.stk,I.ok.exf,I.ok.bs,I.ok.bsz,I.ok.noex,I.ok.exfs,I.ok.funs,I.ok.frf,I.ok.tabs⟩,
  I.os,I.bare,I.base,I.loc,I.cell,I.free,I.freeC,fun p q=>I.pin p (hp p q),I.hok,I.len⟩
end
noncomputable def Jt (gb gs:Ev->O) (f:Addr->Option Bool) (i:Nat):Ev->O:=fun ρ=>match gb ρ with
 | .ex C ρ'=>(match f C with
  | some true=>(match gs (ρ'.set i (some (.val (.exc C)))) with
   | .nx ρ''=>.nx (ρ''.set i none)
   | .rt d=>.rt d
   | _=>.no)
  | _=>.no)
 | o=>o
structure Callee (P:Program) (w:World) (K:PySem.W.Frag) (mg:Str->Option Value) (base:Heap) (x:Str) (k n:Nat) (g:List D->R D):Prop where
 ex:∃ f fd ps,FnF P w K mg base k f fd ps g/\mg x=some (.ref f)/\PySem.W.keepIn K (.ref f)=true/\Binds K fd ps []/\ps.length=n
theorem ww {n:Nat} {e:Expr} (c:Callee X.prog X.w X.K X.mg X.base x k n g) (hr:Room k X.A) (ha:QFA X (e::es) gl) (hg:Gl X x:=by rfl)
 (hdb:(x==("__debug__":Str))=false:=by decide) (he:starEach (e::es) X.env=(false,eval e X.env)::starEach es X.env:=by rfl) (hpl:(backTo pos (starEach es X.env)).any (·.1)=false:=by rfl) :
  QF X (.Call (.Name x p) (e::es) [] pos) (fun ρ=>gl ρ>>=fun ds=>if ds.length=n then g ds else .no):=by
 obtain ⟨f,fd,ps,F,hm,hk,hb,rfl⟩:=c.ex
 exact yI F hr hg hm hk hb ha hdb he hpl
theorem FnF.to {w:World} {K:PySem.W.Frag} {mg:Str->Option Value} {base:Heap} {g':List D->R D} (F:FnF P w K mg base k f fd ps g) (h:∀ ds,ds.length=ps.length->g' ds=.no\/g ds=g' ds):FnF P w K mg base k f fd ps g':=by
 refine F.imp fun vs H Q E ⟨hl,G,ds,sub,r,q⟩=>⟨hl,G,ds,sub,r,?_⟩
 rcases h ds (by rw [<- r.length];exact hl) with z|z
 ·rw [z] at q;exact q.elim
 ·rw [z];exact q
theorem Fun.callee {w:World} {K:PySem.W.Frag} {mg:Str->Option Value} {base:Heap} (F:Fun K x x st f fd) (hm:mg x=some (.ref f)) (ok:FnF P w K mg base k f fd ps g)
 (h:∀ (kV doc pm:Value) (an:Option Addr) (cdv ct:Value) (us:List Value),us.length=ps.length->bindArgs (PySem.W.fnOf x x (iG st) (ck st) (am st) .none kV doc pm an cdv ct) ⟨us,[]⟩=pure (ps.zip us)):Callee P w K mg base x k ps.length g:=
 ⟨f,fd,ps,ok,hm,F.kp,F.binds h,rfl⟩
theorem gw {T:String} {f:String->Bool} (h:∀ K:PySem.W.Frag,PySem.W.kitOne K (.type "NoneType") (.type T)=some (f "NoneType")/\PySem.W.kitOne K (.type "bool") (.type T)=some (f "bool")/\PySem.W.kitOne K (.type "int") (.type T)=some (f "int")/\
 PySem.W.kitOne K (.type "str") (.type T)=some (f "str")/\PySem.W.kitOne K (.type "tuple") (.type T)=some (f "tuple")/\PySem.W.kitOne K (.type "list") (.type T)=some (f "list")) :
  ∀ K:PySem.W.Frag,∀ t∈["NoneType","bool","int","str","tuple","list"],PySem.W.kitOne K (.type t) (.type T)=some (f t):=fun K t ht=>by
 obtain ⟨h1,h2,h3,h4,h5,h6⟩:=h K
 simp only [List.mem_cons,List.mem_nil_iff,or_false] at ht
 rcases ht with rfl|rfl|rfl|rfl|rfl|rfl <;> assumption
noncomputable def isInt (t:String):Bool:=t=="int" || t=="bool"
section
variable {X:Cx} {e:Expr} {ga:Ev->R D} {p p2 pos:Pos}
theorem vN (hm:X.mg "isinstance"=none) (ha:QF X e ga) (hm2:X.mg "int"=none) (hg2:Gl X "int":=by rfl) (hg:Gl X "isinstance":=by rfl) (hs1:starEach [e,.Name "int" p2] X.env=(false,eval e X.env)::starEach [.Name "int" p2] X.env:=by rfl):QF X (.Call (.Name "isinstance" p) [e,.Name "int" p2] [] pos) (fun ρ=>ga ρ>>=iV isInt):=
 gH (T:="int") isInt (gw fun K=>⟨rfl,rfl,rfl,rfl,rfl,rfl⟩) hg hm hg2 hm2 PyProof.Rows.Boot.«int» ha hs1
theorem sO (hm:X.mg "isinstance"=none) (ha:QF X e ga) (hm2:X.mg "bool"=none) (hg2:Gl X "bool":=by rfl) (hg:Gl X "isinstance":=by rfl) (hs1:starEach [e,.Name "bool" p2] X.env=(false,eval e X.env)::starEach [.Name "bool" p2] X.env:=by rfl):QF X (.Call (.Name "isinstance" p) [e,.Name "bool" p2] [] pos) (fun ρ=>ga ρ>>=iV (·=="bool")):=
 gH (T:="bool") (·=="bool") (gw fun K=>⟨rfl,rfl,rfl,rfl,rfl,rfl⟩) hg hm hg2 hm2 PyProof.Rows.Boot.«bool» ha hs1
theorem wP (hm:X.mg "isinstance"=none) (ha:QF X e ga) (hm2:X.mg "str"=none) (hg2:Gl X "str":=by rfl) (hg:Gl X "isinstance":=by rfl) (hs1:starEach [e,.Name "str" p2] X.env=(false,eval e X.env)::starEach [.Name "str" p2] X.env:=by rfl):QF X (.Call (.Name "isinstance" p) [e,.Name "str" p2] [] pos) (fun ρ=>ga ρ>>=iV (·=="str")):=
 gH (T:="str") (·=="str") (gw fun K=>⟨rfl,rfl,rfl,rfl,rfl,rfl⟩) hg hm hg2 hm2 PyProof.Rows.Boot.«str» ha hs1
theorem rm (hm:X.mg "isinstance"=none) (ha:QF X e ga) (hm2:X.mg "tuple"=none) (hg2:Gl X "tuple":=by rfl) (hg:Gl X "isinstance":=by rfl) (hs1:starEach [e,.Name "tuple" p2] X.env=(false,eval e X.env)::starEach [.Name "tuple" p2] X.env:=by rfl):QF X (.Call (.Name "isinstance" p) [e,.Name "tuple" p2] [] pos) (fun ρ=>ga ρ>>=iV (·=="tuple")):=
 gH (T:="tuple") (·=="tuple") (gw fun K=>⟨rfl,rfl,rfl,rfl,rfl,rfl⟩) hg hm hg2 hm2 PyProof.Rows.Boot.«tuple» ha hs1
theorem sv (hm:X.mg "isinstance"=none) (ha:QF X e ga) (hm2:X.mg "list"=none) (hg2:Gl X "list":=by rfl) (hg:Gl X "isinstance":=by rfl) (hs1:starEach [e,.Name "list" p2] X.env=(false,eval e X.env)::starEach [.Name "list" p2] X.env:=by rfl):QF X (.Call (.Name "isinstance" p) [e,.Name "list" p2] [] pos) (fun ρ=>ga ρ>>=iV (·=="list")):=
 gH (T:="list") (·=="list") (gw fun K=>⟨rfl,rfl,rfl,rfl,rfl,rfl⟩) hg hm hg2 hm2 PyProof.Rows.Boot.«list» ha hs1
end
noncomputable def cj (ga:Ev->R D):Ev->O:=fun ρ=>(ga ρ).out ρ .rt
noncomputable def ay (g1 g2:Ev->O):Ev->O:=fun ρ=>(g1 ρ).seq g2
noncomputable def oIf (gt:Ev->R Bool) (g1 g2:Ev->O):Ev->O:=fun ρ=>(gt ρ).out ρ fun k=>if k=true then g1 ρ else g2 ρ
noncomputable def oNx:Ev->O:=fun ρ=>.nx ρ
noncomputable def fw (i:Nat) (ga:Ev->R D):Ev->O:=fun ρ=>(ga ρ).out ρ fun d=>.nx (ρ.set i (some (.val d)))
noncomputable def Gs (i:Nat) (gl:Ev->R (List D)):Ev->O:=fun ρ=>(gl ρ).out ρ fun ds=>.nx (ρ.set i (some (.own ds)))
noncomputable def pP (ga:Ev->R D):Ev->O:=fun ρ=>(ga ρ).out ρ fun _=>.nx ρ
noncomputable def zr (asg:D->Ev->R Ev) (gi:Ev->R (List D)) (g:Ev->O):Ev->O:=fun ρ=>(gi ρ).out ρ fun items=>dw asg g items ρ
noncomputable def iY (C:Addr) (gl:Ev->R (List D)):Ev->O:=fun ρ=>(gl ρ).out ρ fun _=>.ex C ρ
noncomputable def Ix (asg:D->Ev->R Ev) (ga:Ev->R D):Ev->O:=fun ρ=>(ga ρ).out ρ fun d=>(asg d ρ).out ρ .nx
noncomputable def Et (i:Nat) (g:Ev->O):Ev->O:=fun ρ=>g (frz i ρ)
noncomputable def az {α β:Type} (f:α->R β) (ga:Ev->R α):Ev->R β:=fun ρ=>ga ρ>>=f
noncomputable def gOf (f:List D->Option D) (gl:Ev->R (List D)):Ev->R D:=fun ρ=>gl ρ>>=fun ds=>ofO (f ds)
noncomputable def ac (ga:Ev->R D) (gl:Ev->R (List D)):Ev->R (List D):=fun ρ=>ga ρ>>=fun x=>gl ρ>>=fun xs=>.ok (x::xs)
noncomputable def aG (n:Nat) (g:List D->R D) (gl:Ev->R (List D)):Ev->R D:=fun ρ=>gl ρ>>=fun ds=>if ds.length=n then g ds else .no
noncomputable def bL (gl:Ev->R (List D)):Ev->R D:=fun ρ=>gl ρ>>=fun ds=>.ok (.lst false ds)
noncomputable def qI (gl:Ev->R (List D)):Ev->R (List D):=fun ρ=>gl ρ>>=fun ds=>if ds.length<=sizeLine then .ok ds else .no
noncomputable def gB2 (f:D->D->Option D) (ga gb:Ev->R D):Ev->R Bool:=fun ρ=>g2 f ga gb ρ>>=asB
noncomputable def gB3 (f f':D->D->Option D) (ga gb gc:Ev->R D):Ev->R Bool:=fun ρ=>g3 f f' ga gb gc ρ>>=asB
noncomputable def gBn (gt:Ev->R Bool):Ev->R Bool:=fun ρ=>gt ρ>>=fun k=>.ok (!k)
noncomputable def iK (ga:Ev->R D):Ev->R (Option Int):=fun ρ=>ga ρ>>=fun x=>asI x>>=fun i=>.ok (some i)
noncomputable def we (T:String) (f:D->List D->Option D) (ga:Ev->R D) (gl:Ev->R (List D)):Ev->R D:=fun ρ=>ga ρ>>=fun x=>if qF T x=true then gl ρ>>=fun ds=>ofO (f x ds) else .no
theorem Callee.mono {w:World} {K:PySem.W.Frag} {mg:Str->Option Value} {base:Heap} {n:Nat} (c:Callee P w K mg base x k n g) (k':Nat) (h:k<=k':=by decide):Callee P w K mg base x k' n g:=by
 obtain ⟨f,fd,ps,F,hm,hk,hb,e⟩:=c.ex
 exact ⟨f,fd,ps,{ F with run:=fun A outer s H args us vs Q E hr=>F.run A outer s H args us vs Q E (hr.mono h) },hm,hk,hb,e⟩
section
variable {X:Cx} {st:Stmt} {cG body sa sb:List Stmt} {e a b c o tg:Expr} {es:List Expr} {g gs1 gs2:Ev->O} {ga gb gc:Ev->R D} {gt:Ev->R Bool} {gl:Ev->R (List D)} {pos p p2:Pos} {x:Str}
theorem Dm (i:Nat) (hN:X.N.Nodup) (he:QF X e ga) (hi:X.N[i]?=some x:=by rfl) (hx:Loc X.env.scope x:=by first|exact Or.inl rfl|exact Or.inr rfl)
 (hs:swapsWithSole [.Name x p] e pos.line X.env=pure false:=by rfl) (hw:swappedStores [.Name x p] e X.env=pure none:=by rfl) (hf:X.fn x=true\/X.env.scope.names.lookup x=some .local:=by first|exact .inl rfl|exact .inr rfl) :
  QSF X (.Assign [.Name x p] e pos) (fw i ga):=wg i hN he hi hx hs hw hf
theorem qH (ha:QF X e ga) (hr:QFA X es gl) (hs:starEach (e::es) X.env=(false,eval e X.env)::starEach es X.env:=by rfl):QFA X (e::es) (ac ga gl):=wR ha hr hs
end
@[simp] theorem R.ok_out {α:Type} (a:α) (ρ:Ev) (k:α->O):(R.ok a).out ρ k=k a:=rfl
@[simp] theorem R.ex_out {α:Type} (C:Addr) (ρ:Ev) (k:α->O):(R.ex C:R α).out ρ k=.ex C ρ:=rfl
@[simp] theorem lX {α:Type} (a:α):gh (R.ok a)=R.ok a:=rfl
theorem rS {gt:Ev->R Bool} {ge:Ev->R D} (p:D->Bool) (h:D->D) (tl:Ev):∀ (ds:List D) (a:Option Sl),(∀ d∈ds,gt (some (.val d)::tl)=.ok (p d)/\(p d=true->ge (some (.val d)::tl)=.ok (h d)))->fZ gt ge ds (a::tl)=.ok ((ds.filter p).map h)
 | [],a,_=>rfl
 | d::ds,a,H=>by
  have ih:=rS p h tl ds (some (.val d)) fun x m=>H x (List.mem_cons_of_mem _ m)
  obtain ⟨e1,e2⟩:=H d (List.mem_cons_self ..)
  show (gh (gt (some (.val d)::tl))>>=fun k=>if k=true then gh (ge (some (.val d)::tl))>>=fun x=>fZ gt ge ds (some (.val d)::tl)>>=fun xs=>.ok (x::xs) else fZ gt ge ds (some (.val d)::tl))=_
  rw [e1,lX,R.ok_bind,ih]
  cases q:p d with
  | true=>rw [if_pos rfl,e2 q,lX,R.ok_bind,R.ok_bind,List.filter_cons_of_pos q];rfl
  | false=>rw [if_neg Bool.false_ne_true,List.filter_cons_of_neg (by rw [q];exact Bool.false_ne_true)]
theorem jm {gt:Ev->R Bool} (h:D->D) (tl:Ev) (ds:List D) (a:Option Sl) (H:∀ d∈ds,gt (some (.val d)::tl)=.ok true/\ge (some (.val d)::tl)=.ok (h d)):fZ gt ge ds (a::tl)=.ok (ds.map h):=by
 rw [rS (fun _=>true) h tl ds a fun d m=>⟨(H d m).1,fun _=>(H d m).2⟩,List.filter_eq_self.2 fun _ _=>rfl]
theorem ux (f:D->Bool):∀ ds:List D,zn (ds.map fun d=>.bl (f d))=some (ds.map f)
 | []=>rfl
 | d::ds=>by
  have ih:=ux f ds
  rw [List.map_cons,List.map_cons]
  unfold zn
  first|(rw [ih];rfl)|(simp only [ih];rfl)|simp [ih]
theorem kX (f:D->Bool) (k:Bool) (ds:List D):Bb [.lst k (ds.map fun d=>.bl (f d))]=some (.bl (ds.all f)):=by
 show (zn (ds.map fun d=>.bl (f d))).map _=_
 rw [ux]
 show some (D.bl ((ds.map f).all id))=_
 rw [List.all_map];rfl
theorem yA (a b:Nat):(!decide (([b]:List Nat)<[a]))=decide (a<=b):=by
 have:(([b]:List Nat)<[a]) ↔ b<a:=by
  constructor
  ·intro h
   cases h with
   | rel h=>exact h
   | cons h=>cases h
  ·intro h;exact .rel h
 by_cases h:a<=b
 ·have h2 : ¬ ([b]:List Nat)<[a]:=fun q=>by have:=this.1 q;omega
  simp [h,h2]
 ·have h2:([b]:List Nat)<[a]:=this.2 (by omega)
  simp [h,h2]
theorem jP {N':List Str} (hk:scope.kind=.function:=by rfl)
 (h1:(∀ y∈scope.names,y.2 ≠ .cell)/\(∀ y∈scope.names,y.2=.local->scope.names.lookup y.1=some .local)/\scope.names.lookup x=some .local/\(∀ y∈scope.names,y.2=.free->y.1∈N'.tail)/\N'.Nodup/\N'[0]?=some x/\
 ∀ y∈N'.tail,scope.names.lookup y=some .free/\(y,NameKind.free)∈scope.names:=by decide +kernel)
 (h2:N'.tail.map X.env.kindOf=N'.tail.map fun _=>some NameKind.cell:=by rfl) (h3:N'.tail=ix.map (fun (i:Nat)=>X.N.getD i Str.empty):=by rfl) (h4:ix.all (fun i=>decide (i<X.N.length))=true:=by rfl):CompOk X scope x N' ix:=by
 obtain ⟨a,b,c,d,e,f,g⟩:=h1
 refine ⟨hk,a,b,c,fun y hy h=>?_,e,f,h3,fun i hi=>?_,g⟩
 ·exact List.map_inj_left.1 h2 _ (d y hy h)
 ·exact of_decide_eq_true (List.all_eq_true.1 h4 i hi)
theorem rd0 (d:D) (ρ:Ev):rdV (some (.val d)::ρ) 0=.ok d:=rfl
theorem rd1 (a0:Option Sl) (d:D) (ρ:Ev):rdV (a0::some (.val d)::ρ) 1=.ok d:=rfl
theorem rd2 (a0 a1:Option Sl) (d:D) (ρ:Ev):rdV (a0::a1::some (.val d)::ρ) 2=.ok d:=rfl
theorem rd3 (a0 a1 a2:Option Sl) (d:D) (ρ:Ev):rdV (a0::a1::a2::some (.val d)::ρ) 3=.ok d:=rfl
theorem rd4 (a0 a1 a2 a3:Option Sl) (d:D) (ρ:Ev):rdV (a0::a1::a2::a3::some (.val d)::ρ) 4=.ok d:=rfl
theorem rd5 (a0 a1 a2 a3 a4:Option Sl) (d:D) (ρ:Ev):rdV (a0::a1::a2::a3::a4::some (.val d)::ρ) 5=.ok d:=rfl
theorem rd6 (a0 a1 a2 a3 a4 a5:Option Sl) (d:D) (ρ:Ev):rdV (a0::a1::a2::a3::a4::a5::some (.val d)::ρ) 6=.ok d:=rfl
section
variable {f:List D->R D} {ga gb gc gd:Ev->R D} {ρ:Ev}
theorem Bw:aG 1 f (ac ga fun _=>.ok []) ρ=ga ρ>>=fun x=>f [x]:=by
 unfold aG ac
 cases ga ρ <;> rfl
theorem yV:aG 2 f (ac ga (ac gb fun _=>.ok [])) ρ=ga ρ>>=fun x=>gb ρ>>=fun y=>f [x,y]:=by
 unfold aG ac
 cases ga ρ <;> try rfl
 simp only [ac,R.ok_bind]
 cases gb ρ <;> rfl
theorem Bz:aG 3 f (ac ga (ac gb (ac gc fun _=>.ok []))) ρ=ga ρ>>=fun x=>gb ρ>>=fun y=>gc ρ>>=fun z=>f [x,y,z]:=by
 unfold aG ac
 cases ga ρ <;> try rfl
 simp only [ac,R.ok_bind]
 cases gb ρ <;> try rfl
 simp only [R.ok_bind]
 cases gc ρ <;> rfl
end
noncomputable def At (N:List Str) (i:Nat) (x:Str):Prop:=N[i]?=some x
theorem at0 {l:List Str}:At (x::l) 0 x:=rfl
theorem at1 {l:List Str}:At (y0::x::l) 1 x:=rfl
theorem at2 {l:List Str}:At (y0::y1::x::l) 2 x:=rfl
theorem at3 {l:List Str}:At (y0::y1::y2::x::l) 3 x:=rfl
theorem at4 {l:List Str}:At (y0::y1::y2::y3::x::l) 4 x:=rfl
theorem at5 {l:List Str} {y4:Str}:At (y0::y1::y2::y3::y4::x::l) 5 x:=rfl
theorem at6 {l:List Str} {y4 y5:Str}:At (y0::y1::y2::y3::y4::y5::x::l) 6 x:=rfl
theorem at7 {l:List Str} {y4 y5 y6:Str}:At (y0::y1::y2::y3::y4::y5::y6::x::l) 7 x:=rfl
theorem at8 {l:List Str} {y4 y5 y6 y7:Str}:At (y0::y1::y2::y3::y4::y5::y6::y7::x::l) 8 x:=rfl
theorem at9 {l:List Str} {y4 y5 y6 y7 y8:Str}:At (y0::y1::y2::y3::y4::y5::y6::y7::y8::x::l) 9 x:=rfl
theorem Hi {l:List Str} {y4 y5 y6 y7 y8 y9:Str}:At (y0::y1::y2::y3::y4::y5::y6::y7::y8::y9::x::l) 10 x:=rfl
theorem FU {l:List Str} {y4 y5 y6 y7 y8 y9 y10:Str}:At (y0::y1::y2::y3::y4::y5::y6::y7::y8::y9::y10::x::l) 11 x:=rfl
theorem Cw {ga:Ev->R D} (h:ac ga (fun _=>.ok []) ρ=.ok ds):ds.length<=1:=by
 unfold ac at h
 cases e:ga ρ with
 | ok x=>rw [e] at h;cases h;exact Nat.le_refl _
 | ex C=>rw [e] at h;cases h
 | no=>rw [e] at h;cases h
structure Ref (x:Str) (C:Addr) (mg:Str->Option Value) (base:Heap):Prop where
 ex:∃ bm B newId initId,OwnCls x C bm newId mg base/\ExcBaseFacts B newId initId bm
noncomputable def JY (i:Nat) (ga:Ev->R D):Ev->O:=fun ρ=>(ownAt ρ i).out ρ fun ds=>(ga ρ).out ρ fun d=>(asL d).out ρ fun es=>if ds.length+es.length<=sizeLine then .nx (ρ.set i (some (.own (ds++es)))) else .no
noncomputable def GN (i:Nat) (ga:Ev->R D):Ev->O:=fun ρ=>(ownAt ρ i).out ρ fun ds=>(ga ρ).out ρ fun d=>if ds.length<sizeLine then .nx (ρ.set i (some (.own (ds++[d])))) else .no
noncomputable def GC (i j:Nat) (gl:Ev->R (List D)):Ev->O:=fun ρ=>(gl ρ).out ρ fun ds=>(pS [i,j] ds ρ).out ρ .nx
structure Errs (K:PySem.W.Frag) (mg:Str->Option Value) (rs:List Addr) (ts:List (Str×Addr)):Prop where
 na:∀ t∈ts,mg t.1=some (.ref t.2)
 ec:∀ r∈rs,ExcCls K r
 kit:∀ r∈rs,∀ t∈ts,PySem.W.kitOne K (.ref r) (.ref t.2)=some (r==t.2)
 ve:∀ r∈rs,PySem.W.kitOne K (.ref r) (.type "ValueError")=some true
 le:∃ L,mg "LineError"=some (.ref L)/\∀ r∈rs,PySem.W.exmOne K (.ref r) (.ref L)=some true
noncomputable def fl:Nat->D->Bool
 | 0,_=>false
 | n+1,.tup xs=>xs.all (fl n)
 | _+1,.lst _ _=>false
 | _+1,.exc _=>false
 | _+1,.dct _ _=>false
 | _+1,_=>true
theorem zg {K:PySem.W.Frag} {G G2:Hp} {n:Nat} (ih:∀ v d,fl n d=true->Rep K G v d->Rep K G2 v d):∀ {vs:List V} {ds:List D},ds.all (fl n)=true->Reps K G vs ds->Reps K G2 vs ds
 | _,_,_,.nil=>.nil
 | _,_,h,.cons r t=>by
  rw [List.all_cons,Bool.and_eq_true] at h
  exact .cons (ih _ _ h.1 r) (zg ih h.2 t)
theorem yE {K:PySem.W.Frag} {G G2:Hp} (h:∀ a o,G a=some o->(∀ vs,o≠HO.lst vs)->G2 a=some o):∀ (n:Nat) (v:V) (d:D),fl n d=true->Rep K G v d->Rep K G2 v d
 | 0,_,_,hf,_=>by simp [fl] at hf
 | n+1,v,d,hf,r=>by
  cases r with
  | non=>exact .non
  | bl b=>exact .bl b
  | int i=>exact .int i
  | str x hx=>exact .str x hx
  | tup hs t=>
   refine .tup ?_ (zg (fun v d=>yE h n v d) hf t)
   rcases hs with (q|⟨o,q⟩)|q
   ·exact .inl (.inl (h _ _ q fun vs z=>by cases z))
   ·exact .inl (.inr ⟨o,h _ _ q fun vs z=>by cases z⟩)
   ·exact .inr q
  | lst hs t=>simp [fl] at hf
  | fls hs t=>simp [fl] at hf
  | exc hs=>simp [fl] at hf
  | dct _ _ _=>simp [fl] at hf
theorem StR.peek {K:PySem.W.Frag} {H₀:Hp} (s:StR K G₀ H₀ G H σ ρ) (i:Nat):∃ G1,StE K G1 H σ (L2.frz i ρ)/\
  ∀ G' H',Up G1 H G' H'->∃ G2,Up G H G2 H'/\∀ a o,G' a=some o->(∀ vs,o≠HO.lst vs)->G2 a=some o:=by
 obtain ⟨G1,sr,e|⟨l,vs,hl,e⟩⟩:=s.frzTo i
 ·subst e
  exact ⟨G1,sr.e,fun G' H' u=>⟨G',u,fun a o q _=>q⟩⟩
 ·subst e
  refine ⟨_,sr.e,fun G' H' u=>⟨fun a=>if a=l then none else G' a,⟨fun a o q=>?_,fun a o q=>?_,u.hh,fun a o q=>?_⟩,fun a o q hq=>?_⟩⟩
  ·have q:(if a=l then none else G' a)=some o:=q
   split at q
   ·cases q
   ·exact u.sub a o q
  ·have ne:a≠l:=fun z=>by subst z;rw [hl] at q;cases q
   show (if a=l then none else G' a)=some o
   rw [if_neg ne]
   exact u.gg a o (by rw [aK ne];exact q)
  ·have q:(if a=l then none else G' a)=some o:=q
   split at q
   ·cases q
   ·rename_i ne
    rcases u.fr a o q with z|z
    ·rw [aK ne] at z;exact .inl z
    ·exact .inr z
  ·have ne:a≠l:=fun z=>by
    subst z
    have:=u.gg a _ aS
    rw [q] at this
    cases this
    exact hq vs rfl
   show (if a=l then none else G' a)=some o
   rw [if_neg ne];exact q
section
variable {X:Cx} {st:Stmt} {cG body a b:List Stmt} {e c tg:Expr} {g g1 g2:Ev->O} {ga gb:Ev->R D} {gt:Ev->R Bool} {gl:Ev->R (List D)} {pos:Pos}
noncomputable def Lh (i:Nat) (gt:Ev->R Bool) (g1 g2:Ev->O):Ev->O:=fun ρ=>(gh (gt (frz i ρ))).out ρ fun k=>if k=true then g1 ρ else g2 ρ
noncomputable def DT (j i:Nat) (ga:Ev->R D):Ev->O:=fun ρ=>(gh (ga (frz j ρ))).out ρ fun d=>if fl 10 d=true then .nx (ρ.set i (some (.val d))) else .no
noncomputable def GW (j i:Nat) (ga:Ev->R D):Ev->O:=fun ρ=>(ownAt ρ i).out ρ fun ds=>(gh (ga (frz j ρ))).out ρ fun d=>if ds.length<sizeLine/\fl 10 d=true then .nx (ρ.set i (some (.own (ds++[d])))) else .no
noncomputable def CP (i:Nat) (gk ga:Ev->R D):Ev->O:=fun ρ=>(ownAt ρ i).out ρ fun ds=>(gh (ga (frz i ρ))).out ρ fun d=>(gh (gk (frz i ρ)>>=asI)).out ρ fun k=>match ixN ds.length k with
 | some n=>if fl 10 d=true then .nx (ρ.set i (some (.own (ds.set n d)))) else .no
 | none=>.no
noncomputable def J3:D->R (List D)
 | .lst _ xs=>.ok xs
 | .tup xs=>.ok xs
 | _=>.no
noncomputable def BV:List D->R (List D)
 | [d]=>J3 d
 | _=>.no
noncomputable def CC (gl:Ev->R (List D)):Ev->R (List D):=fun ρ=>gl ρ>>=BV
end
end L2
namespace L2
open PySem PySem.Spec PyProof.Rows PySem.W
noncomputable def iC:List D->Option (List (List Nat))
 | []=>some []
 | .str x::ds=>(iC ds).map (x::·)
 | _=>none
noncomputable def oW:List D->Option (List Int)
 | []=>some []
 | .int i::ds=>(oW ds).map (i::·)
 | _=>none
theorem Reps.nums {K:PySem.W.Frag}:∀ {vs:List V} {ds:List D} {ns:List Int},Reps K G vs ds->oW ds=some ns->vs=ns.map V.int
 | _,_,_,.nil,h=>by cases h;rfl
 | _,_,ns,.cons (d:=d) r t,h=>by
  cases d <;> first|(cases h;done)|skip
  rename_i x
  rename_i ds'
  cases q:oW ds' with
  | none=>simp [oW,q] at h
  | some zs=>
   simp [oW,q] at h
   subst h
   rw [Reps.nums t q,r.int_inv];rfl
end L2
namespace L2
open PySem PySem.Spec PyProof.Rows
open Sem (wp)
open AutoSeq1 (wpAny_loadPart')
theorem Fo:isSubtype (.type "enumerate") (.type "enumerate")=pure true:=PySem.sub_enumerate
theorem Ds (l:Addr) (its:Array Value) (n:Nat) (dct:Option Addr) (sl:Array (Option Value)) :
  Meets (Builtin.«enumerate.__new__» ⟨[.type "enumerate",.ref l],[]⟩) (fun _ Rr s=>s.heap.get? l=some { cls:=.type "tuple",dict:=dct,data:=.seq its n,slots:=sl }/\
   Rr (.ok (.ret (.ref (s.heap.push { cls:=.type "tuple_iterator",data:=.fields #[.ref l,.int 0 0] }).objs.size)))
    { s with heap:=(s.heap.push { cls:=.type "tuple_iterator",data:=.fields #[.ref l,.int 0 0] }).push { cls:=.type "enumerate",data:=.fields #[.none,.bool false,.ref s.heap.objs.size,rawInt 0,.none,.none] } }):=
 .of_wp fun prog w A Rr s h=>by
  obtain ⟨hp,g,d,tk,os⟩:=s;obtain ⟨hl,h⟩:=h
  have hsub:=Fo
  have hT:Heap.IsTuple (Shared.heap ⟨hp,g,d,tk,os⟩) l its:=⟨_,hl,rfl,n,rfl⟩
  wp_walk using wpAny_loadPart' hl
  refine wpAny_stack_any fun st=>wpAny_pure ?_
  split
  ·rename_i c _ _ _ _ _
   cases (c==Value.type "enumerate") <;> (wp_walk using wpAny_loadPart' hl,wpAny_pyIter_tuple hT;exact ⟨_,rfl,h⟩)
  ·wp_walk using wpAny_loadPart' hl,wpAny_pyIter_tuple hT
   exact ⟨_,rfl,h⟩
section
variable {prog:Program} {w:World} {A:Around} {E:Value->Shared->Prop} {s:Shared}
theorem DF {itT:String} {l:Addr} {c:Int} {Q:Value->Shared->Prop}
 (h:∀ h',IsEnum h' (s.heap.objs.size+1) s.heap.objs.size c .none->h'.get? s.heap.objs.size=some { cls:=.type itT,data:=.fields #[.ref l,.int 0 0] }->h'.objs.size=s.heap.objs.size+2->
 (∀ b o,s.heap.get? b=some o->h'.get? b=some o)->Q (.ref (s.heap.objs.size+1)) { s with heap:=h' }) :
  wants (fun obj s₁=>s₁.TypeIs obj "enumerate"/\Q obj s₁) E (.ok (.ret (.ref (s.heap.push { cls:=.type itT,data:=.fields #[.ref l,.int 0 0] }).objs.size)))
   { s with heap:=(s.heap.push { cls:=.type itT,data:=.fields #[.ref l,.int 0 0] }).push { cls:=.type "enumerate",data:=.fields #[.none,.bool false,.ref s.heap.objs.size,rawInt c,.none,.none] } }:=by
 have hz:(s.heap.push { cls:=.type itT,data:=.fields #[.ref l,.int 0 0] }).objs.size=s.heap.objs.size+1:=Heap.size_push ..
 have he:IsEnum ((s.heap.push { cls:=.type itT,data:=.fields #[.ref l,.int 0 0] }).push { cls:=.type "enumerate",data:=.fields #[.none,.bool false,.ref s.heap.objs.size,rawInt c,.none,.none] }) (s.heap.objs.size+1) s.heap.objs.size c .none:=by
  have q:=Heap.get?_push_size (s.heap.push { cls:=.type itT,data:=.fields #[.ref l,.int 0 0] }) (o:={ cls:=.type "enumerate",data:=.fields #[.none,.bool false,.ref s.heap.objs.size,rawInt c,.none,.none] }) rfl
  rw [hz] at q
  exact q
 show _/\_
 rw [hz]
 exact ⟨⟨_,he,rfl⟩,h _ he (Heap.get?_push_of_some _ (Heap.get?_push_size _ rfl)) (by rw [Heap.size_push,hz]) fun b o x=>Heap.get?_push_of_some _ (Heap.get?_push_of_some _ x)⟩
theorem Av {l:Addr} {its:Array Value} {n:Nat} {dct:Option Addr} {sl:Array (Option Value)} {Q:Value->Shared->Prop}
 (hl:s.heap.get? l=some { cls:=.type "tuple",dict:=dct,data:=.seq its n,slots:=sl })
 (h:∀ h',IsEnum h' (s.heap.objs.size+1) s.heap.objs.size 0 .none->h'.get? s.heap.objs.size=some { cls:=.type "tuple_iterator",data:=.fields #[.ref l,.int 0 0] }->h'.objs.size=s.heap.objs.size+2->
 (∀ b o,s.heap.get? b=some o->h'.get? b=some o)->Q (.ref (s.heap.objs.size+1)) { s with heap:=h' }) :
  wpAny (model prog w) A (call (.type "enumerate") [.ref l]) Q E s:=
 callType_new F.called_enumerate (by decide) (F.typeCall_enumerate_1 _) (F.newCall_enumerate_1 _) (fun obj=>F.args_object_init_2 obj _) F.entry_enumerate_new (Ds l its n dct sl) ⟨hl,DF h⟩
theorem Ci {t:Addr} {its:Array Value} {x:Value} {Q:Value->Shared->Prop} (hit:s.heap.IsTupleIter it t i) (ht:s.heap.IsTuple t its) (hx:its[i]?=some x)
 (hQ:∀ h',h'.IsTupleIter it t (i+1)->Heap.SameBut it s.heap h'->Q x { s with heap:=h' }):wpAny (model prog w) A (Builtin.SmallTypes.nextOf (.ref it)) Q E s:=by
 obtain ⟨ob,h1,h2,h3⟩:=id hit
 obtain ⟨ot,k1,_,m,k2⟩:=ht
 unfold Builtin.SmallTypes.nextOf
 refine wpAny_bind (wpAny_callSpecial?_slot (name:=Str.ofString "__next__") hit.typeIs F.slot_tuple_iterator_next (wpAny_call_entry F.slot_tuple_iterator_next hit.typeIs F.entry_tuple_iterator_next ?_ (F.args_tuple_iterator_next_1 _)))
 refine wpAny_bind (m:=field (.ref it) 0) (wpAny_field h1 h3 (x:=.ref t) rfl ?_)
 show wpAny _ _ (if (Value.ref t==Value.none)=true then _ else _) _ _ s
 rw [if_neg (by exact Bool.false_ne_true)]
 refine wpAny_bind (m:=field (.ref it) 1) (wpAny_field h1 h3 (x:=.int i 0) rfl (wpAny_bind (m:=seqItems? (.ref t)) (wpAny_seqItems k1 k2 ?_)))
 simp only [Int.toNat_natCast,hx]
 refine wpAny_bind (wpAny_setField h1 h3 (by simp) (wpAny_pure ⟨x,rfl,wpAny_pure (hQ _ ⟨_,Heap.get?_update_self _ h1 (Obj.isFreed_of_fields (Obj.data_mapFields h3 _)),(Obj.cls_mapFields ..).trans h2,?_⟩ (Heap.SameBut.update ..))⟩))
 rw [Obj.data_mapFields h3];simp [rawInt]
theorem BK {t:Addr} {its:Array Value} {Q:Value->Shared->Prop} (hh:A.handled=none) (hit:s.heap.IsTupleIter it t i) (ht:s.heap.IsTuple t its) (hx:its[i]?=none)
 (hE:∀ h' e,Heap.ExtBut it s.heap h'->(∃ o,h'.get? e=some o/\o.cls=.type "StopIteration")->E (.ref e) { s with heap:=h' }):wpAny (model prog w) A (Builtin.SmallTypes.nextOf (.ref it)) Q E s:=by
 obtain ⟨ob,h1,h2,h3⟩:=id hit
 obtain ⟨ot,k1,_,m,k2⟩:=ht
 unfold Builtin.SmallTypes.nextOf
 refine wpAny_bind (wpAny_callSpecial?_slot (name:=Str.ofString "__next__") hit.typeIs F.slot_tuple_iterator_next (wpAny_call_entry F.slot_tuple_iterator_next hit.typeIs F.entry_tuple_iterator_next ?_ (F.args_tuple_iterator_next_1 _)))
 refine wpAny_bind (m:=field (.ref it) 0) (wpAny_field h1 h3 (x:=.ref t) rfl ?_)
 show wpAny _ _ (if (Value.ref t==Value.none)=true then _ else _) _ _ s
 rw [if_neg (by exact Bool.false_ne_true)]
 refine wpAny_bind (m:=field (.ref it) 1) (wpAny_field h1 h3 (x:=.int i 0) rfl (wpAny_bind (m:=seqItems? (.ref t)) (wpAny_seqItems k1 k2 ?_)))
 simp only [Int.toNat_natCast,hx]
 refine wpAny_bind (wpAny_rule (wpAny_bind (wpAny_setField h1 h3 (by simp) (wpAny_bind (m:=newExc (.type "StopIteration") []) ?_))))
 simp only [newExc,newTuple]
 refine wpAny_bind (wpAny_newObj_type (wpAny_bind (m:=firstArgMember _ _) (wpAny_of_eq (a:=Value.none) (by first|rfl|(simp only [firstArgMember];rfl)) (wpAny_newObj_type ?_ (by size_fits)))) (by size_fits))
 simp only [raiseNew]
 refine wpAny_bind (wpAny_handled ?_)
 first|rw [show A.in1.handled=none from hh]|rw [hh]
 exact wpAny_bind (wpAny_pure (wpAny_throw (hE _ _ (((Heap.SameBut.update ..).extBut.push _).push _) ⟨_,Heap.get?_push_size _ rfl,rfl⟩)))
end
theorem FE {prog:Program} {w:World} {A:Around} (hh:A.handled=none) (it l:Addr) (hne:l≠it) (its:Array Value) (c:Nat) :
  Draws prog w A it [it,l] (c+its.size) (fun i v=>∃ k,i=c+k/\its[k]?=some v) (fun i h=>∃ k,i=c+k/\h.IsTupleIter it l k/\h.IsTuple l its) where
 live:=fun _ _ ⟨_,_,st,_⟩=>let ⟨o,ho,_⟩:=st;⟨o,ho⟩
 frame:=fun _ _ _ ⟨k,e,st,t⟩ hk=>⟨k,e,st.at fun o e=>hk it (by simp) o e,let ⟨o,ho,r⟩:=t;⟨o,hk l (by simp) o ho,r⟩⟩
 item:=fun i s Q E hi ⟨k,e,st,t⟩ hQ=>by
  have hk:k<its.size:=by omega
  refine Ci st t (x:=its[k]) (by simp [hk]) fun h' st' sb=>hQ _ h' s.toks ⟨k,e,by simp [hk]⟩ ⟨k+1,by omega,st',?_⟩ sb
  obtain ⟨o,ho,r⟩:=t
  exact ⟨o,(sb.2 l hne).trans ho,r⟩
 done:=fun s Q E ⟨k,e,st,t⟩ hE=>BK hh st t (Array.getElem?_eq_none (by omega)) hE
theorem Fe {prog:Program} {w:World} {A:Around} (hh:A.handled=none) (it l:Addr) (hne:l≠it) (its:Array Value) (c:Nat) :
  Draws prog w A it [it,l] (c+its.size) (fun i v=>∃ k,i=c+k/\its[k]?=some v) (fun i h=>∃ k,i=c+k/\h.IsListIter it l k/\h.IsList l its) where
 live:=fun _ _ ⟨_,_,st,_⟩=>let ⟨o,ho,_⟩:=st;⟨o,ho⟩
 frame:=fun _ _ _ ⟨k,e,st,t⟩ hk=>⟨k,e,st.at fun o e=>hk it (by simp) o e,t.at fun o e=>hk l (by simp) o e⟩
 item:=fun i s Q E hi ⟨k,e,st,t⟩ hQ=>by
  have hk:k<its.size:=by omega
  exact wpAny_nextOf_list_item st t (x:=its[k]) (by simp [hk]) fun h' st' sb=>hQ _ h' s.toks ⟨k,e,by simp [hk]⟩ ⟨k+1,by omega,st',t.extBut sb.extBut hne⟩ sb
 done:=fun s Q E ⟨k,e,st,t⟩ hE=>wpAny_nextOf_list_end hh st t (Array.getElem?_eq_none (by omega)) hE
theorem Inv.turned2 {σ:List (Option V)} {t':Nat} {e:Addr} (I:Inv X pins σ H s) (k:∀ b o,b≠it->b≠e->s.heap.get? b=some o->h'.get? b=some o) (f1:nP X pins H it) (f2:nP X pins H e) :
  Inv X pins σ H { s with heap:=h',toks:=t' }:=by
 obtain ⟨a0,a1,a2,a3,a4,a5⟩:=f1
 obtain ⟨b0,b1,b2,b3,b4,b5⟩:=f2
 have n1:∀ b u,H b=some u->b≠it:=fun b u q z=>by rw [z,a0] at q;cases q
 have n2:∀ b u,H b=some u->b≠e:=fun b u q z=>by rw [z,b0] at q;cases q
 have kk:∀ b o,b ∉ [it,e]->s.heap.get? b=some o->h'.get? b=some o:=fun b o hb q=>k b o (fun z=>hb (by simp [z])) (fun z=>hb (by simp [z])) q
 refine I.step (g':=s.gens) (d':=s.drawn) (ch:=[it,e]) (fun b hb=>?_) (fun b o _ _ hc q _=>kk b o hc q) (fun b o _ _ hc q _=>⟨o.slots,kk b o hc q⟩) (fun _ _ _ _ n=>n) (fun b o hc q=>⟨o,kk b o hc q⟩) (fun _ _ q=>q) (fun _ _ _ q=>q) (fun b ps q=>⟨#[],by rw [q];simp⟩) (fun m hm=>?_) (fun b u q=>?_) I.bare
 ·simp only [List.mem_cons,List.mem_nil_iff,or_false] at hb
  rcases hb with rfl|rfl
  ·exact ⟨a3,a1,a4,a5⟩
  ·exact ⟨b3,b1,b4,b5⟩
 ·obtain ⟨o,es,ep,ho,r⟩:=hm
  exact ⟨o,es,ep,k _ o (Ne.symm a1) (Ne.symm b1) ho,r⟩
 ·refine (I.hok b u q).stay (fun c v hc q'=>k c v ?_ ?_ q') (fun _ q'=>q') fun _ _ q'=>q'
  ·rcases hc with z|z
   ·rw [z];exact n1 b u q
   ·exact n1 c _ z
  ·rcases hc with z|z
   ·rw [z];exact n2 b u q
   ·exact n2 c _ z
noncomputable def Ite (sq:Hp->List V->Prop) (c:Nat):It:=⟨fun i H=>∃ xs x,sq H xs/\xs[i]?=some x,
 fun i H v H'=>∃ p x,v=.ref p/\H p=none/\H'=upd H p (.tup [.int ((c+i:Nat):Int),x])/\∀ xs,sq H xs->xs[i]?=some x,fun i H=>∃ xs,sq H xs/\xs.length<=i⟩
section
variable {P:Program} {w:World} {K:PySem.W.Frag} {elts:List Expr} {kt:Nat} {tp:Pos}
structure Inner (P:Program) (w:World) (K:PySem.W.Frag) (sq:Hp->List V->Prop) (a it:Addr) (iter:Nat->Heap->Prop):Prop where
 obj:∀ i h,iter i h->∃ o,h.get? it=some o/\∀ v,o.data ≠ .cell v
 at_:∀ i h h',iter i h->(∀ o,h.get? it=some o->h'.get? it=some o)->iter i h'
 inj:∀ (X:Cx),X.K=K->∀ (pins:List (Addr×Obj)) (σ:St) (H:Hp) (s:Shared) xs ys,Inv X pins σ H s->sq H xs->sq H ys->xs=ys
 dr:∀ (X:Cx),X.prog=P->X.w=w->X.K=K->X.calm=true->∀ (pins:List (Addr×Obj)) (σ:St) (H:Hp) (s:Shared) (xs:List V) (c:Nat),Inv X pins σ H s->sq H xs->(∀ i,iter i s.heap->a≠it)->
  ∃ its:List Value,Vals xs its/\xs.length<=sizeLine/\∃ (Pd:Nat->Value->Prop) (St:Nat->Heap->Prop),Draws P w X.A.in1 it [it,a] (c+its.length) Pd St/\(∀ k v,Pd (c+k) v->its[k]?=some v)/\
   (∀ k h,iter k h->(∀ o,s.heap.get? a=some o->h.get? a=some o)->a≠it->St (c+k) h)/\∀ k h,St (c+k) h->iter k h
 fin:∀ (X:Cx),X.prog=P->X.w=w->X.K=K->X.calm=true->∀ (pins:List (Addr×Obj)) (σ:St) (H:Hp) (s:Shared) (xs:List V) (i:Nat) (Q:Value->Shared->Prop) (E:Value->Shared->Prop),Inv X pins σ H s->sq H xs->xs.length<=i->iter i s.heap->
  (∀ h' x,Heap.ExtBut it s.heap h'->(∃ o,h'.get? x=some o/\o.cls=.type "StopIteration")->E (.ref x) { s with heap:=h' })->wpAny (model P w) X.A.in1 (Builtin.SmallTypes.nextOf (.ref it)) Q E s
theorem xG {ob o:Obj} (hb:b<h.objs.size) (q:(h.push ob).get? b=some o):h.get? b=some o:=by
 unfold Heap.get? Heap.push at *
 simpa [Array.getElem?_push,Nat.ne_of_lt hb] using q
theorem ET {prog:Program} {A:Around} {e:Addr} {c:Int} {old:Value} {Q:Option Value->Shared->Prop} (he:IsEnum s.heap e it c old)
 (hn:∀ (Q':Value->Shared->Prop) (E':Value->Shared->Prop),(∀ h' x,Heap.ExtBut it s.heap h'->(∃ o,h'.get? x=some o/\o.cls=.type "StopIteration")->E' (.ref x) { s with heap:=h' })->wpAny (model prog w) A.in1 (Builtin.SmallTypes.nextOf (.ref it)) Q' E' s)
 (hQ:∀ h',Heap.ExtBut it s.heap h'->Q none { s with heap:=h' }):wpAny (model prog w) A (pyNext (.ref e)) Q E s:=by
 have ht:s.TypeIs (.ref e) "enumerate":=⟨_,he,rfl⟩
 unfold pyNext
 refine wpAny_bind (wpAny_attempt (wpAny_callSpecial?_slot (name:=Str.ofString "__next__") ht F.slot_enumerate_next (wpAny_call_entry F.slot_enumerate_next ht F.entry_enumerate_next ?_ (F.args_enumerate_next_1 _))))
 refine wpAny_bind (m:=field (.ref e) 2) (wpAny_field he rfl (x:=.ref it) rfl (wpAny_bind (hn _ _ fun h' x hb hx=>?_)))
 obtain ⟨o,ho,hc⟩:=hx
 exact wpAny_bind (wpAny_isInstance (T:="StopIteration") (b:=true) ⟨o,ho,hc⟩ isSubtype_stop (wpAny_pure (hQ _ hb)))
theorem zf {e:Addr} {iter:Nat->Heap->Prop} (N:Inner P w K sq a it iter) (c:Nat) (hei:e≠it) (hea:e≠a) (hai:a≠it) :
  Turn P w K (.Tuple elts kt tp) (Ite sq c) [e,it] e (fun i h=>(∃ old,IsEnum h e it ((c+i:Nat):Int) old)/\iter i h) where
 mem:=by simp
 obj:=fun i h st b hb=>by
  simp only [List.mem_cons,List.mem_nil_iff,or_false] at hb
  rcases hb with rfl|rfl
  ·obtain ⟨old,q⟩:=st.1
   exact ⟨_,q,fun v z=>by cases z⟩
  ·exact N.obj i h st.2
 keep:=fun i h h' st k=>⟨st.1.imp fun old q=>k e (by simp) _ q,N.at_ i h h' st.2 fun o q=>k it (by simp) o q⟩
 item:=by
  intro X hP hw hK hc i pins s σ H E I hf st hg
  obtain ⟨xs,x,hq,hx⟩:=hg
  obtain ⟨⟨old,he⟩,hi⟩:=st
  obtain ⟨its,rv,hz,Pd,St,Dr,p1,p2,p3⟩:=N.dr X hP hw hK hc pins σ H s xs c I hq fun _ _=>hai
  obtain ⟨u,hu,ru⟩:=rv.get hx
  have hil:i<its.length:=(List.getElem?_eq_some_iff.mp hu).1
  have fe:=hf e (by simp)
  have fi:=hf it (by simp)
  subst hP hw
  refine wpAny_pyNext_enum_itemD Dr he (p2 i _ hi (fun _ q=>q) hai) (by omega) hei (by simp only [List.mem_cons,List.mem_nil_iff,or_false,not_or];exact ⟨hei,hea⟩) fun y h1 tk hy ho hs1 ht hsz hk=>?_
  have ey:y=u:=by
   have q:=p1 i y hy
   rw [hu] at q
   exact (Option.some.inj q).symm
  subst ey
  refine ⟨_,rfl,wpAny_letOwnedTupleGo_enum ho fun h2 he2 sb=>?_⟩
  have helt:e<s.heap.objs.size:=Heap.lt_size he
  have hpe:s.heap.objs.size≠e:=Nat.ne_of_gt helt
  obtain ⟨oi,hoi,_⟩:=N.obj i _ hi
  have hpi:s.heap.objs.size≠it:=Nat.ne_of_gt (Heap.lt_size hoi)
  have hp:H s.heap.objs.size=none:=I.hok.fresh (Nat.le_refl _)
  have Ia:Inv X pins σ (upd H s.heap.objs.size (.tup [.int ((c+i:Nat):Int),x])) { s with heap:=s.heap.push { cls:=.type "tuple",data:=.seq #[.int ((c+i:Nat):Int) tk,y] } }:=by
   refine I.laid (t':=s.toks) (fun b o q=>Heap.get?_push_of_some _ q) (Nat.le_refl _) ?_
   exact ⟨by show 2<=sizeLine;decide,[.int ((c+i:Nat):Int) tk,y],.cons ⟨tk,rfl⟩ (.cons ru .nil),IsTup.new _ _⟩
  have fe':nP X pins (upd H s.heap.objs.size (.tup [.int ((c+i:Nat):Int),x])) e:=⟨by rw [aK (Ne.symm hpe)];exact fe.1,fe.2⟩
  have fi':nP X pins (upd H s.heap.objs.size (.tup [.int ((c+i:Nat):Int),x])) it:=⟨by rw [aK (Ne.symm hpi)];exact fi.1,fi.2⟩
  have ht2:h2.get? s.heap.objs.size=some { cls:=.type "tuple",data:=.seq #[.int ((c+i:Nat):Int) tk,y] }:=(sb.2 _ hpe).trans ht
  have Ib:Inv X pins σ (upd H s.heap.objs.size (.tup [.int ((c+i:Nat):Int),x])) { s with heap:=h2,toks:=tk+1 }:=by
   refine Ia.turned2 (t':=tk+1) (fun b o n1 n2 q=>?_) fi' fe'
   by_cases z:b=s.heap.objs.size
   ·subst z
    have q':=Heap.get?_push_size s.heap (o:={ cls:=.type "tuple",data:=.seq #[.int ((c+i:Nat):Int) tk,y] }) rfl
    have q:(s.heap.push { cls:=.type "tuple",data:=.seq #[.int ((c+i:Nat):Int) tk,y] }).get? s.heap.objs.size=some o:=q
    rw [q'] at q
    rw [ht2];exact q
   ·have q:(s.heap.push { cls:=.type "tuple",data:=.seq #[.int ((c+i:Nat):Int) tk,y] }).get? b=some o:=q
    have q2:s.heap.get? b=some o:=by
     rcases Nat.lt_or_ge b s.heap.objs.size with hb|hb
     ·exact xG hb q
     ·have hlt:b<(s.heap.push { cls:=.type "tuple",data:=.seq #[.int ((c+i:Nat):Int) tk,y] }).objs.size:=Heap.lt_size q
      rw [Heap.size_push] at hlt
      exact absurd (Nat.le_antisymm (Nat.le_of_lt_succ hlt) hb) z
    exact (sb.2 b n2).trans (hk b o n2 n1 q2)
  refine ⟨.ref s.heap.objs.size,_,Ib,rfl,⟨_,x,rfl,hp,rfl,fun ys hy'=>by rw [N.inj X hK pins σ H s ys xs I hy' hq];exact hx⟩,⟨⟨y,by have q:=he2;rw [show ((c+(i+1):Nat):Int)=((c+i:Nat):Int)+1 by omega];exact q⟩,?_⟩,fun b hb=>?_⟩
  ·refine N.at_ (i+1) h1 h2 (p3 (i+1) h1 hs1) fun o q=>(sb.2 it (Ne.symm hei)).trans q
  ·simp only [List.mem_cons,List.mem_nil_iff,or_false] at hb
   rcases hb with rfl|rfl
   ·exact fe'.1
   ·exact fi'.1
 done:=by
  intro X hP hw hK hc i pins s σ H E I hf st hg
  obtain ⟨xs,hq,hx⟩:=hg
  obtain ⟨⟨old,he⟩,hi⟩:=st
  have fi:=hf it (by simp)
  have fin:=N.fin X hP hw hK hc pins σ H s xs i
  subst hP hw
  exact ET he (fun Q' E' hE=>fin Q' E' I hq hx hi hE) fun h' hb=>⟨rfl,I.turned (t':=s.toks) (fun b o n q=>hb b o n q) fi.1 fi.2.1 fi.2.2.2.1 fi.2.2.2.2.1 fi.2.2.2.2.2⟩
 self:=fun A i s Q E st h=>by
  obtain ⟨⟨old,he⟩,_⟩:=st
  exact wpAny_pyIter_enum he h
theorem yz (a it:Addr):Inner P w K (fun H xs=>SqT K H a xs) a it (fun i h=>h.IsTupleIter it a i) where
 obj:=fun i h st=>let ⟨o,q,c,d⟩:=st;⟨o,q,fun v z=>by rw [d] at z;cases z⟩
 at_:=fun i h h' st k=>st.at k
 inj:=fun X hK pins σ H s xs ys I h1 h2=>by subst hK;exact I.tuple_inj h1 h2
 dr:=fun X hP hw hK hc pins σ H s xs c I hq hne=>by
  subst hP hw hK
  obtain ⟨its,rv,p,hz⟩:=I.tuple hq
  have hh:X.A.in1.handled=none:=I.ok.hd hc
  by_cases hai:a=it
  ·exact ⟨its,rv,hz,fun _ _=>False,fun _ _=>False,⟨fun _ _ z=>z.elim,fun _ _ _ z _=>z,fun _ _ _ _ _ z _=>z.elim,fun _ _ _ z _=>z.elim⟩,fun _ _ z=>z.elim,fun _ _ _ _ z=>absurd hai z,fun _ _ z=>z.elim⟩
  ·have Dq:=FE (prog:=X.prog) (w:=X.w) hh it a hai its.toArray c
   rw [List.size_toArray] at Dq
   refine ⟨its,rv,hz,fun i v=>∃ k,i=c+k/\its.toArray[k]?=some v,fun i h=>∃ k,i=c+k/\h.IsTupleIter it a k/\h.IsTuple a its.toArray,Dq,fun k v q=>?_,fun k h st kp _=>⟨k,rfl,st,?_⟩,fun k h q=>?_⟩
   ·obtain ⟨k',e,q⟩:=q
    have:k=k':=by omega
    subst this;simpa using q
   ·obtain ⟨o,ho,r⟩:=p
    exact ⟨o,kp o ho,r⟩
   ·obtain ⟨k',e,st,_⟩:=q
    have:k=k':=by omega
    subst this;exact st
 fin:=fun X hP hw hK hc pins σ H s xs i Q E I hq hx st hE=>by
  subst hP hw hK
  obtain ⟨its,rv,p,hz⟩:=I.tuple hq
  have hl:=rv.length
  exact BK (I.ok.hd hc) st (show s.heap.IsTuple a its.toArray from p) (by simp;omega) hE
theorem qP (a it:Addr):Inner P w K (fun H xs=>SqL K H a xs) a it (fun i h=>h.IsListIter it a i) where
 obj:=fun i h st=>let ⟨o,q,c,d⟩:=st;⟨o,q,fun v z=>by rw [d] at z;cases z⟩
 at_:=fun i h h' st k=>st.at k
 inj:=fun X hK pins σ H s xs ys I h1 h2=>by subst hK;exact I.list_inj h1 h2
 dr:=fun X hP hw hK hc pins σ H s xs c I hq hne=>by
  subst hP hw hK
  obtain ⟨its,rv,p,hz⟩:=I.list hq
  have hh:X.A.in1.handled=none:=I.ok.hd hc
  by_cases hai:a=it
  ·exact ⟨its,rv,hz,fun _ _=>False,fun _ _=>False,⟨fun _ _ z=>z.elim,fun _ _ _ z _=>z,fun _ _ _ _ _ z _=>z.elim,fun _ _ _ z _=>z.elim⟩,fun _ _ z=>z.elim,fun _ _ _ _ z=>absurd hai z,fun _ _ z=>z.elim⟩
  ·have Dq:=Fe (prog:=X.prog) (w:=X.w) hh it a hai its.toArray c
   rw [List.size_toArray] at Dq
   refine ⟨its,rv,hz,fun i v=>∃ k,i=c+k/\its.toArray[k]?=some v,fun i h=>∃ k,i=c+k/\h.IsListIter it a k/\h.IsList a its.toArray,Dq,fun k v q=>?_,fun k h st kp _=>⟨k,rfl,st,?_⟩,fun k h q=>?_⟩
   ·obtain ⟨k',e,q⟩:=q
    have:k=k':=by omega
    subst this;simpa using q
   ·obtain ⟨o,ho,r⟩:=p.isList
    exact ⟨o,kp o ho,r⟩
   ·obtain ⟨k',e,st,_⟩:=q
    have:k=k':=by omega
    subst this;exact st
 fin:=fun X hP hw hK hc pins σ H s xs i Q E I hq hx st hE=>by
  subst hP hw hK
  obtain ⟨its,rv,p,hz⟩:=I.list hq
  have hl:=rv.length
  exact wpAny_nextOf_list_end (I.ok.hd hc) st p.isList (by simp;omega) hE
end
end L2
namespace L2
open PySem PySem.Spec PyProof.Rows
noncomputable def cK (c:Nat) (xs:List D):List D:=(List.range xs.length).map fun i=>.tup [.int ((c+i:Nat):Int),xs.getD i .non]
theorem qz {c:Nat} {xs:List D} (h:(cK c xs)[i]?=some d):∃ x,xs[i]?=some x/\d=.tup [.int ((c+i:Nat):Int),x]:=by
 unfold cK at h
 rw [List.getElem?_map] at h
 by_cases hi:i<xs.length
 ·rw [List.getElem?_range hi] at h
  refine ⟨xs[i],List.getElem?_eq_getElem hi,?_⟩
  have e:xs.getD i .non=xs[i]:=by rw [List.getD_eq_getElem?_getD,List.getElem?_eq_getElem hi];rfl
  rw [<- e]
  exact (Option.some.inj h).symm
 ·rw [List.getElem?_eq_none (by simp;omega)] at h;cases h
theorem mK (c:Nat) (xs:List D):(cK c xs).length=xs.length:=by simp [cK]
theorem ItOk.enum {K:PySem.W.Frag} {c:Nat} (hs:∀ G1 H1,Same G G1->Same G1 H1->sq H1 vs) (r:Reps K G vs ds):ItOk K G (Ite sq c) (cK c ds):=by
 intro i G1 H1 s1 s2
 refine ⟨fun d e=>?_,fun hl=>⟨vs,hs G1 H1 s1 s2,by rw [mK] at hl;rw [r.length];exact hl⟩⟩
 obtain ⟨dx,ex,rfl⟩:=qz e
 obtain ⟨v,ev,rv⟩:=r.get ex
 refine ⟨⟨vs,v,hs G1 H1 s1 s2,ev⟩,fun x H' y=>?_⟩
 obtain ⟨p,x',rfl,hp,rfl,y⟩:=y
 have z:=y vs (hs G1 H1 s1 s2)
 rw [ev] at z
 cases z
 refine ⟨upd G1 p (.tup [.int ((c+i:Nat):Int),v]),.new s2 hp,.tup (.of aS) (.cons (.int _) (.cons ((rv.mono s1).mono (.into (s2.free hp))) .nil))⟩
section
variable {X:Cx} {pins:List (Addr×Obj)} {σ:St} {H:Hp} {s:Shared} {elts:List Expr} {kt:Nat} {tp:Pos} {Rr:It->Hp->Prop}
theorem pf {l:Addr} {iter:Nat->Heap->Prop} {c:Nat} (I:Inv X pins σ H s) (N:Inner X.prog X.w X.K sq l (s.heap.objs.size) iter) (hl:l<s.heap.objs.size) (he:IsEnum h' (s.heap.objs.size+1) s.heap.objs.size (c:Int) .none) (hi:iter 0 h')
 (hk:∀ b o,s.heap.get? b=some o->h'.get? b=some o) (q:Rr (Ite sq c) H):PIE X pins σ (.Tuple elts kt tp) Rr (.ref (s.heap.objs.size+1)) { s with heap:=h' }:=by
 have hlt:s.heap.objs.size<=s.heap.objs.size+1:=Nat.le_succ _
 refine ⟨_,_,_,_,H,rfl,I.kept (t':=s.toks) hk,zf N c (Nat.ne_of_gt (Nat.lt_succ_self _)) (Nat.ne_of_gt (Nat.lt_succ_of_lt hl)) (Nat.ne_of_lt hl),⟨⟨_,he⟩,hi⟩,fun b hb=>?_,q⟩
 simp only [List.mem_cons,List.mem_nil_iff,or_false] at hb
 rcases hb with rfl|rfl
 ·exact I.fpOk hlt (I.hok.fresh hlt)
 ·exact I.fpOk (Nat.le_refl _) (I.hok.fresh (Nat.le_refl _))
theorem SqT.lt' (I:Inv X pins σ H s) (h:SqT X.K H a xs):a<s.heap.objs.size:=by
 obtain ⟨its,rv,⟨o,q,_⟩,_⟩:=I.tuple h
 exact Heap.lt_size q
theorem SqL.lt' (I:Inv X pins σ H s) (h:SqL X.K H a xs):a<s.heap.objs.size:=by
 obtain ⟨its,rv,p,_⟩:=I.list h
 obtain ⟨o,q,_⟩:=p.isList
 exact Heap.lt_size q
end
noncomputable def yb:D->R (List D)
 | .lst _ xs=>.ok (cK 0 xs)
 | .tup xs=>.ok (cK 0 xs)
 | _=>.no
noncomputable def BO:D->D->R (List D)
 | .tup xs,.int c=>if 0<=c/\c<1073741824 then .ok (cK c.toNat xs) else .no
 | _,_=>.no
section
variable {X:Cx} {a b:Expr} {ga gb:Ev->R D} {elts:List Expr} {kt:Nat} {p pos tp kp:Pos}
noncomputable def EG (ga gb:Ev->R D):Ev->R (List D):=fun ρ=>ga ρ>>=fun x=>gb ρ>>=fun c=>BO x c
end
noncomputable def D6:List D->Option D
 | [.lst _ ds]=>match oW ds with
  | some ns=>some (.int ns.sum)
  | none=>none
 | [.tup ds]=>match oW ds with
  | some ns=>some (.int ns.sum)
  | none=>none
 | _=>none
theorem Vals.ints:∀ {ns:List Int} {its:List Value},Vals (ns.map V.int) its->IntsAre its ns
 | [],_,.nil=>.nil
 | n::ns,_,.cons r t=>by
  obtain ⟨tk,rfl⟩:=r
  exact .cons n tk (Vals.ints t)
section
variable {X:Cx}
theorem qy {ns:List Int} (rv:Vals (ns.map V.int) its):∃ xs:Array (Int×Tok),its.toArray=intItems xs/\preSum (numAt xs) xs.size=ns.sum:=by
 have hi:=Vals.ints rv
 obtain ⟨xs,hx⟩:=hi.allInts.items
 have e1:ns=xs.toList.map (·.1):=by
  rw [<- nums_intItems,<- hx]
  exact (show numsOf its.toArray.toList=ns from hi.numsOf).symm
 exact ⟨xs,hx,by rw [preSum_eq,List.take_of_length_le (by simp),e1]⟩
theorem yj (hc:X.calm=true):kP X (.builtin "sum") (fun xs H Q=>∃ p,∃ ns:List Int,xs=[.ref p]/\(SqL X.K H p (ns.map V.int)\/SqT X.K H p (ns.map V.int))/\Q (.int ns.sum) H):=by
 intro pins s σ H xs us Q I r ⟨p,ns,ex,hs,q⟩
 subst ex
 obtain ⟨u,rfl,r1⟩:=r.one
 cases r1
 rcases hs with hs|hs
 ·obtain ⟨its,rv,pl,hz⟩:=I.list hs
  obtain ⟨xs,hx,e2⟩:=qy rv
  refine sum_intListG (I.ok.hd hc) (hx ▸ pl.isList) fun h' tk t' hk=>?_
  rw [e2]
  exact ⟨.int _,H,I.kept (t':=tk) hk,⟨_,rfl⟩,q⟩
 ·obtain ⟨its,rv,pl,hz⟩:=I.tuple hs
  obtain ⟨xs,hx,e2⟩:=qy rv
  have ht:s.heap.IsTuple p its.toArray:=pl
  refine PySem.W.ktm_sumG (I.ok.hd hc) (hx ▸ ht) fun h' tk t' hk=>?_
  rw [e2]
  exact ⟨.int _,H,I.kept (t':=tk) hk,⟨_,rfl⟩,q⟩
theorem CV (K:PySem.W.Frag):D5 K (fun xs H Q=>∃ p,∃ ns:List Int,xs=[.ref p]/\(SqL K H p (ns.map V.int)\/SqT K H p (ns.map V.int))/\Q (.int ns.sum) H) D6:=by
 intro G H xs ds d Q s r e q
 unfold D6 at e
 split at e
 ·split at e
  ·rename_i ns hn
   cases e
   obtain ⟨v,rfl,r1⟩:=r.one
   obtain ⟨a,vs,rfl,hs,rr⟩:=r1.seq_inv
   obtain rfl:=rr.nums hn
   exact ⟨a,ns,rfl,.inl (hs.mono s),q _ G H (.refl s) (.int _)⟩
  ·cases e
 ·split at e
  ·rename_i ns hn
   cases e
   obtain ⟨v,rfl,r1⟩:=r.one
   obtain ⟨a,vs,rfl,hs,rr⟩:=r1.tup_inv
   obtain rfl:=rr.nums hn
   exact ⟨a,ns,rfl,.inr (hs.mono s),q _ G H (.refl s) (.int _)⟩
  ·cases e
 ·cases e
end
noncomputable def HU (i j:Nat) (ga:Ev->R D) (gl:Ev->R (List D)):Ev->O:=fun ρ=>(ga ρ).out ρ fun d=>(gl ρ).out ρ fun ds=>.nx ((ρ.set i (some (.val d))).set j (some (.own ds)))
theorem Inv.turnedL {σ:List (Option V)} {t':Nat} (I:Inv X pins σ H s) (k:∀ b o,b ∉ ch->s.heap.get? b=some o->h'.get? b=some o) (f:∀ b∈ch,nP X pins H b) :
  Inv X pins σ H { s with heap:=h',toks:=t' }:=by
 have n1:∀ b u,H b=some u->b ∉ ch:=fun b u q z=>by rw [(f b z).1] at q;cases q
 refine I.step (g':=s.gens) (d':=s.drawn) (ch:=ch) (fun b hb=>?_) (fun b o _ _ hc q _=>k b o hc q) (fun b o _ _ hc q _=>⟨o.slots,k b o hc q⟩) (fun _ _ _ _ n=>n) (fun b o hc q=>⟨o,k b o hc q⟩) (fun _ _ q=>q) (fun _ _ _ q=>q) (fun b ps q=>⟨#[],by rw [q];simp⟩) (fun m hm=>?_) (fun b u q=>?_) I.bare
 ·obtain ⟨a0,a1,a2,a3,a4,a5⟩:=f b hb
  exact ⟨a3,a1,a4,a5⟩
 ·obtain ⟨o,es,ep,ho,r⟩:=hm
  exact ⟨o,es,ep,k _ o (fun z=>(f _ z).2.1 rfl) ho,r⟩
 ·refine (I.hok b u q).stay (fun c v hc q'=>k c v ?_ q') (fun _ q'=>q') fun _ _ q'=>q'
  rcases hc with z|z
  ·rw [z];exact n1 b u q
  ·exact n1 c _ z
noncomputable def GQ:D->D->R D
 | .str x,.int k=>if k = -1 then .ok (.str x.reverse) else .no
 | .lst _ xs,.int k=>if k = -1 then .ok (.lst false xs.reverse) else .no
 | _,_=>.no
noncomputable def KQ (ga gs:Ev->R D):Ev->R D:=fun ρ=>ga ρ>>=fun x=>gs ρ>>=fun k=>GQ x k
noncomputable def vx (gt:Ev->R Bool) (g:Ev->O):Nat->Ev->O
 | 0,_=>.no
 | n+1,ρ=>(gt ρ).out ρ fun k=>if k=true then (match g ρ with
  | .nx ρ2=>vx gt g n ρ2
  | .ct ρ2=>vx gt g n ρ2
  | .bk ρ2=>.nx ρ2
  | .rt d=>.rt d
  | .re d ρ2=>.re d ρ2
  | .ex C ρ2=>.ex C ρ2
  | .no=>.no) else .nx ρ
noncomputable def Gj (n:Nat) (gt:Ev->R Bool) (g:Ev->O):Ev->O:=fun ρ=>vx gt g n ρ
noncomputable def yR (gs:List (Ev->R D)) (ρ:Ev):D->R D
 | .int i=>if 0<=i then (match gs[i.toNat]? with
  | some g=>g ρ
  | none=>.no) else .no
 | _=>.no
noncomputable def HD (gs:List (Ev->R D)) (gi:Ev->R D):Ev->R D:=fun ρ=>gi ρ>>=yR gs ρ
theorem Ew {gi:Ev->R D}:HD gs gi ρ=gi ρ>>=yR gs ρ:=rfl
theorem FD {g:Ev->R D}:yR (g::gs) ρ (.int 0)=g ρ:=rfl
theorem FJ {f g:Ev->R D}:yR (f::g::gs) ρ (.int 1)=g ρ:=rfl
section
variable {X:Cx} {a b:Expr} {ga gb:Ev->R D} {pos:Pos}
structure KTup (K:PySem.W.Frag) (c:Addr) (ls:List (List Nat)):Prop where
 ex:∃ (o:Obj) (its:Array Value) (n:Nat) (vs:List V),K.lookup c=some o/\o.cls=.type "tuple"/\o.data=.seq its n/\its.size<=sizeLine/\Vals vs its.toList/\∀ G,Reps K G vs (ls.map .str)
end
noncomputable def J8 (n:Nat):List Nat:=(Nat.toDigits 10 n).map Char.toNat
section
variable {X:Cx} {a b c e e1 e2 e3 e4 e5:Expr} {ga gb gc g1 g2' g3' g4 g5:Ev->R D} {gl:Ev->R (List D)} {pos p:Pos}
noncomputable def Ka:D->R D
 | .int i=>if 0<=i/\i<10000000000 then .ok (.str (J8 i.toNat)) else .no
 | .str x=>.ok (.str x)
 | _=>.no
noncomputable def uf:List (Ev->R D)->List Nat->Ev->R D
 | [],out=>fun _=>.ok (.str out)
 | g::gs,out=>fun ρ=>g ρ>>=fun d=>match d with
  | .str x=>if (out++x).length<=sizeLine then uf gs (out++x) ρ else .no
  | _=>.no
noncomputable def HI (gs:List (Ev->R D)):Ev->R D:=uf gs []
end
noncomputable def HF (j i:Nat) (gl:Ev->R (List D)):Ev->O:=fun ρ=>(gh (gl (frz j ρ))).out ρ fun ds=>if ds.all (fl 10)=true then .nx (ρ.set i (some (.own ds))) else .no
section
variable {prog:Program} {w:World} {A:Around} {E:Value->Shared->Prop} {s:Shared}
structure Z3 (z TI TO i1 i2 i3 l1 l2 l3:Addr):Prop where
 nd:[z,TI,TO,i1,i2,i3].Nodup
 ap:∀ l∈[l1,l2,l3],l ∉ [z,TO,i1,i2,i3]
end
noncomputable def vo (asg:D->Ev->R Ev) (gt:Ev->R Bool) (ge:Ev->R D):List D->Ev->R (List D)
 | [],_=>.ok []
 | d::ds,ρ=>gh (asg d ρ)>>=fun ρ1=>gh (gt ρ1)>>=fun k=>if k=true then ge ρ1>>=fun x=>vo asg gt ge ds ρ1>>=fun xs=>.ok (x::xs) else vo asg gt ge ds ρ1
noncomputable def GA (gi:Ev->R (List D)) (ix:List Nat) (gt:Ev->R Bool) (ge:Ev->R D):Ev->R (List D):=fun ρ=>gi ρ>>=fun items=>if items.length<=sizeLine then vo (jA 0) gt ge items (jI ix ρ) else .no
section
variable {X:Cx} {a b c e ix:Expr} {es:List Expr} {ga gb gi:Ev->R D} {gl:Ev->R (List D)} {pos p p1 p2 p3 pl sp:Pos}
noncomputable def Ee (c:Nat):List Nat->Option (List Nat×List Nat)
 | []=>none
 | d::r=>if d=c then some ([],r) else (Ee c r).map fun p=>(d::p.1,p.2)
noncomputable def Dj (c:Nat) (x:List Nat):List Nat×List Nat×List Nat:=match Ee c x with
 | some (p,q)=>(p,[c],q)
 | none=>(x,[],[])
noncomputable def Hg:D->List D->Option D
 | .str x,[.str [c]]=>if x.length<=10000 then some (.tup [.str (Dj c x).1,.str (Dj c x).2.1,.str (Dj c x).2.2]) else none
 | _,_=>none
theorem Ge {f g h:Ev->R D}:yR (f::g::h::gs) ρ (.int 2)=h ρ:=rfl
end
structure ClOk (N:List Str) (scope:Scope) (cl:List (Str×Addr)) (σ:St) (H:Hp) (h:Heap):Prop where
 kind:scope.kind=.function
 nocell:∀ y∈scope.names,y.2 ≠ .cell
 inj:∀ y z c,cl.lookup y=some c->cl.lookup z=some c->y=z
 has:∀ y,scope.names.lookup y=some .free->∃ c,cl.lookup y=some c
 cell:∀ y c,cl.lookup y=some c->H c=none/\∃ v,h.IsCell c v
 val:∀ (i:Nat) y v,N[i]?=some y->σ[i]?=some (some v)->∃ u c,RelV v u/\scope.names.lookup y=some .free/\cl.lookup y=some c/\h.IsCell c (some u)
 len:σ.length=N.length
section
variable {X:Cx} {pins:List (Addr×Obj)} {σ:St} {H:Hp} {s:Shared} {params:Arguments} {body:Expr} {scope:Scope} {pos:Pos} {c P:Addr} {ps:Array Value} {Q:Value->Shared->Prop}
structure Lam (X:Cx) (pins:List (Addr×Obj)) (σ:St) (H:Hp) (s:Shared) (params:Arguments) (body:Expr) (scope:Scope) (f:Addr) (cd ctv pm:Value) (H1:Hp) (s1:Shared):Prop where
 inv:Inv X pins σ H1 s1
 hh:Same H H1
 new:∀ a,H a=none->H1 a=none\/s.heap.objs.size<=a
 free:H1 f=none
 fn:s1.heap.get? f=some { cls:=.type "function",data:=.func (PySem.W.kla_fn "<lambda>" (X.env.qual++"<lambda>") params body scope (vH X.env scope.names []) pm cd ctv) }
 codeH:∃ c o vs t u,cd=.ref c/\H1 c=some (.frz o u)/\o.data=.fields vs/\vs[1]?=some (.str (X.env.qual++"<lambda>") t)
end
structure FnFH (P:Program) (w:World) (K:PySem.W.Frag) (mg:Str->Option Value) (base:Heap) (k:Nat) (f:Addr) (fd:FuncData) (ps:List Str) (g:List D->R D):Prop where
 run:∀ (A:Around) (x:Addr) (outer:List Env) (s:Shared) (H:Hp) (args:Args) (us:List Value) (vs:List V) (Q:VK) (E:XK),Room k A->Env0 P w K mg base A outer s H->BindsTo s fd args (ps.zip us)->Vals vs us->(vs.length=ps.length/\spF K g vs H Q E)->
  codeAny (model P w) (A.mark (some (.ref x))) (.call (.ref f) args) (CR (CXo P w) outer P w H s Q E) s
structure CalleeH (P:Program) (w:World) (K:PySem.W.Frag) (mg:Str->Option Value) (base:Heap) (x:Str) (k n:Nat) (g:List D->R D):Prop where
 ex:∃ f fd ps,FnFH P w K mg base k f fd ps g/\mg x=some (.ref f)/\PySem.W.keepIn K (.ref f)=true/\Binds K fd ps []/\ps.length=n
noncomputable def EY (P:Program) (w:World) (K:PySem.W.Frag) (mg:Str->Option Value) (base:Heap) (k:Nat) (s1:Shared) (G1 H1:Hp) (f:Addr) (m:R D):Prop:=
 ∀ (Y:Cx) (pins:List (Addr×Obj)) (σY:St) (G2 H2:Hp) (s2:Shared) (fs:List Addr) (Q:VK),Y.prog=P->Y.w=w->Y.K=K->Y.mg=mg->Y.base=base->Inv Y pins σY H2 s2->Room k Y.A->Un fs [] H1 H2 s1.heap s2.heap->Up G1 H1 G2 H2->
  m.post (Fin G2 H2 (Rep Y.K) Q) (Exx Y σY G2 H2)->(∃ o fd,s2.heap.get? f=some o/\o.data=.func fd)/\wpAny (model Y.prog Y.w) Y.A (call (.ref f) []) (EP Y pins σY Q) Y.xe s2
structure Told (P:Program) (w:World) (K:PySem.W.Frag) (mg:Str->Option Value) (base:Heap) (x:Str) (k j:Nat) (g:R D->R D):Prop where
 ex:∃ ft,mg x=some (.ref ft)/\PySem.W.keepIn K (.ref ft)=true/\∀ (A:Around) (outer:List Env) (s1:Shared) (G1 H1:Hp) (f:Addr) (m:R D) (Q:VK) (E:XK),Room k A->Env0 P w K mg base A outer s1 H1->Same G1 H1->EY P w K mg base j s1 G1 H1 f m->
  (g m).post (Fin G1 H1 (Rep K) Q) (fun C=>∀ G' H',Up G1 H1 G' H'->E (.ref C) none H')->codeAny (model P w) A (.call (.ref ft) ⟨[.ref f],[]⟩) (CR (CXo P w) outer P w H1 s1 Q E) s1
structure LamAt (X:Cx):Prop where
 ex:∃ c P q,X.env.code=.ref c/\(∀ h,X.K.In h->PySem.W.CodeHd h c P)/\GR X.base P q/\q=X.env.qual++"<lambda>"/\X.base.BuiltinsAt X.mg P/\mainGlobals≠P
structure LamOk (X:Cx) (scope:Scope) (N':List Str) (ix:List Nat):Prop where
 kind:scope.kind=.function
 co:scope.isCoroutine=false
 gen:scope.isGenerator=false
 cell:∀ y∈scope.names,y.2 ≠ .cell
 fr:∀ y∈scope.names,y.2=.free->X.env.kindOf y.1=some .cell
 tl:N'=ix.map fun (i:Nat)=>X.N.getD i Str.empty
 lt:∀ i∈ix,i<X.N.length
 fre:∀ y∈N',scope.names.lookup y=some .free/\(y,NameKind.free)∈scope.names
structure LamDef (K:PySem.W.Frag) (mg:Str->Option Value) (fd:FuncData) (Pt:Addr):Prop where
 ex:∃ c,fd.code=.ref c/\∀ h,K.In h->PySem.W.CodeHd h c Pt
 ne:mainGlobals≠Pt
structure LamB (K:PySem.W.Frag) (mg:Str->Option Value) (base:Heap) (qual:Str) (fd:FuncData) (Pt:Addr):Prop where
 ld:LamDef K mg fd Pt
 tb:GR base Pt (qual++".<locals>."++"<lambda>")
 bm:base.BuiltinsAt mg Pt
noncomputable def hid (H:Hp) (ow:kj):Hp:=fun a=>if (ow a).isSome=true then none else H a
theorem zV {o:HO} (h:hid H ow a=some o):H a=some o/\ow a=none:=by
 unfold hid at h
 split at h
 ·cases h
 ·rename_i q;exact ⟨h,by cases e:ow a with|none=>rfl|some t=>rw [e] at q;exact absurd rfl q⟩
theorem kY {t:Nat×Nat} (h:ow a=some t):hid H ow a=none:=by
 unfold hid;rw [h];exact if_pos rfl
theorem iA (h:ow a=none):hid H ow a=H a:=by
 unfold hid;rw [h];exact if_neg (by simp)
theorem Dz (H:Hp) (ow:kj):Same (hid H ow) H:=fun a o e=>(zV e).1
noncomputable def sI (i j:Nat) (ow:kj):kj:=fun a=>match ow a with
 | some (i',t)=>if i'=i then some (j,t) else none
 | none=>none
theorem ou {t:Nat} (h:ow a=some (i,t)):sI i j ow a=some (j,t):=by
 unfold sI;rw [h];exact if_pos rfl
theorem zZ {t:Nat×Nat} (h:sI i j ow a=some t):ow a=some (i,t.2)/\t.1=j:=by
 unfold sI at h
 split at h
 ·rename_i i' t' e
  split at h
  ·rename_i z;subst z;cases h;exact ⟨e,rfl⟩
  ·cases h
 ·cases h
section
variable {K:PySem.W.Frag} {H₀ G H:Hp} {ow:kj} {i j:Nat} {m:Bool} {C p:Addr} {fs:List (Nat×Fd)}
theorem FdAt.hid {m':Bool}:∀ {fd:Fd} {v:V},FdAt K H₀ G H ow i m k fd v->FdAt K (L2.hid H ow) G H ow i m' k fd v
 | .val d,v,r=>r
 | .own ds,v,⟨l,ws,e,h1,h2,h3,h4,h5⟩=>⟨l,ws,e,h1,h2,fun _=>kY h5,h4,h5⟩
theorem FdsAt.hid {m':Bool}:∀ {fs:List (Nat×Fd)} {vs:List (Str×V)},FdsAt K H₀ G H ow i m fs vs->FdsAt K (L2.hid H ow) G H ow i m' fs vs
 | _,_,.nil=>.nil
 | _,_,.cons h nk r t=>.cons h nk (FdAt.hid r) (FdsAt.hid t)
theorem InsAt.hid (h:InsAt K H₀ G H ow i m C p fs) (m':Bool):InsAt K (L2.hid H ow) G H ow i m' C p fs:=by
 obtain ⟨dx,vs,h1,h2,h3,h4,h5,h6,h7,h8⟩:=h
 exact ⟨dx,vs,h1,h2,h3,h4,fun _=>⟨kY h6,kY h7⟩,h6,h7,h8.hid⟩
theorem DcoAt.hid (h:DcoAt K H₀ G H ow i m p fs) (m':Bool):DcoAt K (L2.hid H ow) G H ow i m' p fs:=
 let ⟨o,xs,ks,ds,h1,h2,h3,h4,h5,h6,h7⟩:=h
 ⟨o,xs,ks,ds,h1,h2,fun _=>kY h4,h4,h5,h6,h7⟩
theorem ObjAt.hid (h:ObjAt K H₀ G H ow i m C p fs) (m':Bool):ObjAt K (L2.hid H ow) G H ow i m' C p fs:=h.imp (fun z=>⟨z.1,z.2.hid m'⟩) fun z=>⟨z.1,z.2.hid m'⟩
theorem FdAt.ro {H₀':Hp}:∀ {fd:Fd} {v:V},FdAt K H₀ G H ow i m k fd v->FdAt K H₀' G H ow i false k fd v
 | .val d,v,r=>r
 | .own ds,v,⟨l,ws,e,h1,h2,h3,h4,h5⟩=>⟨l,ws,e,h1,h2,fun z=>absurd z (by decide),h4,h5⟩
theorem FdsAt.ro {H₀':Hp}:∀ {fs:List (Nat×Fd)} {vs:List (Str×V)},FdsAt K H₀ G H ow i m fs vs->FdsAt K H₀' G H ow i false fs vs
 | _,_,.nil=>.nil
 | _,_,.cons h nk r t=>.cons h nk (FdAt.ro r) (FdsAt.ro t)
theorem InsAt.ro (h:InsAt K H₀ G H ow i m C p fs) (H₀':Hp):InsAt K H₀' G H ow i false C p fs:=by
 obtain ⟨dx,vs,h1,h2,h3,h4,h5,h6,h7,h8⟩:=h
 exact ⟨dx,vs,h1,h2,h3,h4,fun z=>absurd z (by decide),h6,h7,h8.ro⟩
theorem DcoAt.ro (h:DcoAt K H₀ G H ow i m p fs) (H₀':Hp):DcoAt K H₀' G H ow i false p fs:=
 let ⟨o,xs,ks,ds,h1,h2,h3,h4,h5,h6,h7⟩:=h
 ⟨o,xs,ks,ds,h1,h2,fun z=>(nomatch z),h4,h5,h6,h7⟩
theorem ObjAt.ro (h:ObjAt K H₀ G H ow i m C p fs) (H₀':Hp):ObjAt K H₀' G H ow i false C p fs:=h.imp (fun z=>⟨z.1,z.2.ro H₀'⟩) fun z=>⟨z.1,z.2.ro H₀'⟩
end
noncomputable def eG (m:Bool) (C p:Addr) (fs:List (Nat×Fd)) (n:Nat) (ds:List D):Ev:=some (.obj m C p fs)::(ds.map (fun d=>some (.val d))++List.replicate (n - (ds.length+1)) none)
theorem rZ {K:PySem.W.Frag} {H₀:Hp} {m:Bool} {p:Addr} {fs:List (Nat×Fd)} {N:List Str} {us:List V} (sub0:Same G H₀) (up:Up G H₀ G H) (r:Reps K G us ds) (ob:ObjAt K H₀ G H ow 0 m C p fs) :
  StR K G H₀ G H (start N (.ref p::us)) (eG m C p fs N.length ds):=by
 have hl:=r.length
 have get:∀ (i:Nat) x,(eG m C p fs N.length ds)[i]?=some (some x)->(i=0/\x=.obj m C p fs)\/∃ k d,i=k+1/\ds[k]?=some d/\x=.val d:=fun i x e=>by
  cases i with
  | zero=>left;cases e;exact ⟨rfl,rfl⟩
  | succ k=>
   right
   unfold eG at e
   rw [List.getElem?_cons_succ] at e
   by_cases hi:k<ds.length
   ·rw [List.getElem?_append_left (by simpa using hi),List.getElem?_map] at e
    cases q:ds[k]? with
    | none=>rw [q] at e;cases e
    | some d=>rw [q] at e;cases e;exact ⟨k,d,rfl,q,rfl⟩
   ·rw [List.getElem?_append_right (by simpa using hi),List.getElem?_replicate] at e
    split at e <;> cases e
 have obs:ObSt K H₀ G H (start N (.ref p::us)) (eG m C p fs N.length ds):=by
  refine ⟨ow,fun i es l e=>?_,fun i m' C' p' fs' e=>?_⟩
  ·rcases get i _ e with ⟨_,z⟩|⟨k,d,_,_,z⟩ <;> cases z
  ·rcases get i _ e with ⟨rfl,z⟩|⟨k,d,_,_,z⟩
   ·cases z;exact ⟨rfl,ob⟩
   ·cases z
 refine ⟨⟨up.sub,?_,fun i d e=>?_,obs.rd⟩,sub0,up,fun i es e=>?_,fun i j es fs l e=>?_,obs⟩
 ·simp [start,eG,hl]
 ·rcases get i _ e with ⟨_,z⟩|⟨k,d',rfl,e',z⟩
  ·cases z
  ·cases z
   obtain ⟨v,ev,rv⟩:=r.get e'
   refine ⟨v,?_,rv⟩
   unfold start
   rw [List.map_cons,List.cons_append,List.getElem?_cons_succ,List.getElem?_append_left (by have:=(List.getElem?_eq_some_iff.mp ev).1;simpa using this),List.getElem?_map,ev]
   rfl
 ·rcases get i _ e with ⟨_,z⟩|⟨k,d,_,_,z⟩ <;> cases z
 ·rcases get i _ e with ⟨_,z⟩|⟨k,d,_,_,z⟩ <;> cases z
inductive RM where
 | ok (d:D) (fs:List (Nat×Fd))|rd (d:D)|ex (C:Addr)|no
noncomputable abbrev MF:=List (Nat×Fd)->List D->RM
noncomputable def qN (C:Addr) (g:Ev->O) (n:Nat) (F:MF):Prop:=∀ p fs ds,match F fs ds with
 | .ok d fs'=>∃ ρ',ρ'[0]?=some (some (.obj true C p fs'))/\(g (eG true C p fs n ds)=.re d ρ'\/(g (eG true C p fs n ds)=.nx ρ'/\d=.non))
 | .rd d=>g (eG false C p fs n ds)=.rt d
 | .ex E=>∃ ρ',g (eG false C p fs n ds)=.ex E ρ'
 | .no=>True
noncomputable def spM (K:PySem.W.Frag) (C:Addr) (F:MF):Sp:=fun vs H Q E=>∃ G p us ds fs ow,vs=.ref p::us/\Reps K G us ds/\Same G H/\(∀ a t,ow a=some t->G a=none)/\ObjAt K (fun _=>none) G H ow 0 true C p fs/\match F fs ds with
 | .ok d fs'=>∀ v G' H' ow',Up G (hid H ow) G' H'->ObjAt K (hid H ow) G' H' ow' 0 true C p fs'->Rep K G' v d->Q v H'
 | .rd d=>∀ v G' H',Up G H G' H'->Rep K G' v d->Q v H'
 | .ex C'=>∀ G' H',Up G H G' H'->E (.ref C') none H'
 | .no=>False
noncomputable abbrev FnM (P:Program) (w:World) (K:PySem.W.Frag) (mg:Str->Option Value) (base:Heap) (k:Nat) (f:Addr) (fd:FuncData) (ps:List Str) (C:Addr) (F:MF):Prop:=FnOk P w K mg base (CXo P w) k f fd ps (fun vs H Q E=>vs.length=ps.length/\spM K C F vs H Q E)
theorem F9 (sub:Same G H) (hg:∀ a t,ow a=some t->G a=none):Same G (hid H ow)/\Up G (hid H ow) G H:=by
 have s:Same G (hid H ow):=fun a o e=>by
  cases q:ow a with
  | none=>rw [iA q];exact sub a o e
  | some t=>rw [hg a t q] at e;cases e
 exact ⟨s,sub,.refl _,Dz H ow,fun _ _ e=>.inl e⟩
noncomputable def nq (i:Nat) (m:Bool) (H₀ G H:Hp) (ow:kj):kj:=fun a=>open Classical in if (∃ o,H a=some o)/\G a=none/\(m=true->H₀ a=none) then sI i 0 ow a else none
section
variable {K:PySem.W.Frag} {H₀ G H:Hp} {ow:kj} {i:Nat} {m:Bool} {C p:Addr} {fs:List (Nat×Fd)}
theorem pO {t:Nat} {o:HO} (h:ow a=some (i,t)) (e:H a=some o) (g:G a=none) (z:m=true->H₀ a=none):nq i m H₀ G H ow a=some (0,t):=by
 unfold nq;rw [if_pos ⟨⟨o,e⟩,g,z⟩];exact ou h
theorem mf {t:Nat×Nat} (h:nq i m H₀ G H ow a=some t):ow a=some (i,t.2)/\(∃ o,H a=some o)/\G a=none/\(m=true->H₀ a=none):=by
 unfold nq at h
 split at h
 ·rename_i q;exact ⟨(zZ h).1,q⟩
 ·cases h
theorem FdAt.cut:∀ {fd:Fd} {v:V},FdAt K H₀ G H ow i m k fd v->FdAt K (fun _=>none) G H (nq i m H₀ G H ow) 0 true k fd v
 | .val d,v,r=>r
 | .own ds,v,⟨l,ws,e,h1,h2,h3,h4,h5⟩=>⟨l,ws,e,h1,h2,fun _=>rfl,h4,pO h5 h1 h2 h3⟩
theorem FdsAt.cut:∀ {fs:List (Nat×Fd)} {vs:List (Str×V)},FdsAt K H₀ G H ow i m fs vs->FdsAt K (fun _=>none) G H (nq i m H₀ G H ow) 0 true fs vs
 | _,_,.nil=>.nil
 | _,_,.cons h nk r t=>.cons h nk (FdAt.cut r) (FdsAt.cut t)
theorem InsAt.cut (h:InsAt K H₀ G H ow i m C p fs):InsAt K (fun _=>none) G H (nq i m H₀ G H ow) 0 true C p fs:=by
 obtain ⟨dx,vs,h1,h2,h3,h4,h5,h6,h7,h8⟩:=h
 exact ⟨dx,vs,h1,h2,h3,h4,fun _=>⟨rfl,rfl⟩,pO h6 h1 h3 fun z=>(h5 z).1,pO h7 h2 h4 fun z=>(h5 z).2,h8.cut⟩
theorem DcoAt.cut (h:DcoAt K H₀ G H ow i m p fs):DcoAt K (fun _=>none) G H (nq i m H₀ G H ow) 0 true p fs:=
 let ⟨o,xs,ks,ds,h1,h2,h3,h4,h5,h6,h7⟩:=h
 ⟨o,xs,ks,ds,h1,h2,fun _=>rfl,pO h4 h1 h2 h3,h5,h6,h7⟩
theorem ObjAt.cut (h:ObjAt K H₀ G H ow i m C p fs):ObjAt K (fun _=>none) G H (nq i m H₀ G H ow) 0 true C p fs:=h.imp (fun z=>⟨z.1,z.2.cut⟩) fun z=>⟨z.1,z.2.cut⟩
end
section
variable {K:PySem.W.Frag} {H₀ H₀' G H:Hp} {ow ow2:kj} {i:Nat} {C p:Addr}
theorem FdAt.newtag (h:∀ a t,ow a=some (0,t)->H₀ a=none->ow2 a=some (i,t)) (z:∀ a,H₀ a=none->H₀' a=none):∀ {fd:Fd} {v:V},FdAt K H₀ G H ow 0 true k fd v->FdAt K H₀' G H ow2 i true k fd v
 | .val d,v,r=>r
 | .own ds,v,⟨l,ws,e,h1,h2,h3,h4,h5⟩=>⟨l,ws,e,h1,h2,fun _=>z l (h3 rfl),h4,h l _ h5 (h3 rfl)⟩
theorem FdsAt.newtag (h:∀ a t,ow a=some (0,t)->H₀ a=none->ow2 a=some (i,t)) (z:∀ a,H₀ a=none->H₀' a=none):∀ {fs:List (Nat×Fd)} {vs:List (Str×V)},FdsAt K H₀ G H ow 0 true fs vs->FdsAt K H₀' G H ow2 i true fs vs
 | _,_,.nil=>.nil
 | _,_,.cons k nk r t=>.cons k nk (FdAt.newtag h z r) (FdsAt.newtag h z t)
theorem InsAt.newtag {fs:List (Nat×Fd)} (h:∀ a t,ow a=some (0,t)->H₀ a=none->ow2 a=some (i,t)) (z:∀ a,H₀ a=none->H₀' a=none) (o:InsAt K H₀ G H ow 0 true C p fs):InsAt K H₀' G H ow2 i true C p fs:=by
 obtain ⟨dx,vs,h1,h2,h3,h4,h5,h6,h7,h8⟩:=o
 exact ⟨dx,vs,h1,h2,h3,h4,fun _=>⟨z p (h5 rfl).1,z dx (h5 rfl).2⟩,h p _ h6 (h5 rfl).1,h dx _ h7 (h5 rfl).2,h8.newtag h z⟩
theorem DcoAt.newtag {fs:List (Nat×Fd)} (h:∀ a t,ow a=some (0,t)->H₀ a=none->ow2 a=some (i,t)) (z:∀ a,H₀ a=none->H₀' a=none) (o:DcoAt K H₀ G H ow 0 true p fs):DcoAt K H₀' G H ow2 i true p fs:=
 let ⟨o,xs,ks,ds,h1,h2,h3,h4,h5,h6,h7⟩:=o
 ⟨o,xs,ks,ds,h1,h2,fun _=>z p (h3 rfl),h p 0 h4 (h3 rfl),h5,h6,h7⟩
theorem ObjAt.newtag {fs:List (Nat×Fd)} (h:∀ a t,ow a=some (0,t)->H₀ a=none->ow2 a=some (i,t)) (z:∀ a,H₀ a=none->H₀' a=none) (o:ObjAt K H₀ G H ow 0 true C p fs):ObjAt K H₀' G H ow2 i true C p fs:=o.imp (fun y=>⟨y.1,y.2.newtag h z⟩) fun y=>⟨y.1,y.2.newtag h z⟩
end
theorem StR.meth {K:PySem.W.Frag} {H₀ G':Hp} {p:Addr} {fs:List (Nat×Fd)} {ow':kj} (s:StR K G₀ H₀ G H σ ρ) (e:ρ[i]?=some (some (.obj true C p fs))) (o1:∀ (j:Nat) ds l,ρ[j]?=some (some (.own ds))->σ[j]?=some (some (.ref l))->ow l=some (j,0))
 (o2:∀ (j:Nat) m C p fs,ρ[j]?=some (some (.obj m C p fs))->σ[j]?=some (some (.ref p))/\ObjAt K H₀ G H ow j m C p fs)
 (u:Up G (hid H (nq i true H₀ G H ow)) G' H') (ob:ObjAt K (hid H (nq i true H₀ G H ow)) G' H' ow' 0 true C p fs'):StR K G₀ H₀ G' H' σ (ρ.set i (some (.obj true C p fs'))):=by
 have hl:i<ρ.length:=(List.getElem?_eq_some_iff.mp e).1
 have get:∀ (j:Nat) x,(ρ.set i (some (.obj true C p fs')))[j]?=some (some x)->(j=i/\x=.obj true C p fs')\/(j≠i/\ρ[j]?=some (some x)):=fun j x h=>by
  by_cases z:i=j
  ·subst z
   rw [List.getElem?_set_self hl] at h
   exact .inl ⟨rfl,by injection (Option.some.inj h) with q;exact q.symm⟩
  ·rw [List.getElem?_set_ne z] at h
   exact .inr ⟨fun q=>z q.symm,h⟩
 have keep:∀ a o,H a=some o->nq i true H₀ G H ow a=none->H' a=some o:=fun a o q n=>u.hh a o (by rw [iA n];exact q)
 have out0:∀ a,H₀ a≠none->nq i true H₀ G H ow a=none:=fun a q=>by
  cases z:nq i true H₀ G H ow a with
  | none=>rfl
  | some t=>exact absurd ((mf z).2.2.2 rfl) q
 have outT:∀ a j t,j≠i->ow a=some (j,t)->nq i true H₀ G H ow a=none:=fun a j t nj q=>by
  cases z:nq i true H₀ G H ow a with
  | none=>rfl
  | some t'=>have:=(mf z).1;rw [q] at this;cases this;exact absurd rfl nj
 have gn:∀ a o,H a=some o->G a=none->nq i true H₀ G H ow a=none->G' a=none:=fun a o q g n=>by
  cases z:G' a with
  | none=>rfl
  | some o'=>
   rcases u.fr a o' z with z|z
   ·rw [g] at z;cases z
   ·rw [iA n,q] at z;cases z
 have up:Up G₀ H₀ G' H':=by
  refine ⟨u.sub,s.up.gg.trans u.gg,fun a o q=>keep a o (s.up.hh a o q) (out0 a (by rw [q];simp)),fun a o q=>?_⟩
  rcases u.fr a o q with z|z
  ·exact s.up.fr a o z
  ·by_cases n:nq i true H₀ G H ow a=none
   ·rw [iA n] at z;exact .inr (s.up.hh.free z)
   ·cases y:nq i true H₀ G H ow a with
    | none=>exact absurd y n
    | some t=>exact .inr ((mf y).2.2.2 rfl)
 have ob':ObSt K H₀ G' H' σ (ρ.set i (some (.obj true C p fs'))):=by
  refine ⟨fun a=>open Classical in if hid H (nq i true H₀ G H ow) a=none then sI 0 i ow' a else ow a,fun j ds l h1 h2=>?_,fun j m' C' p' fs'' h1=>?_⟩
  ·rcases get j _ h1 with ⟨_,z⟩|⟨nj,f1⟩
   ·cases z
   ·have ol:=o1 j ds l f1 h2
    obtain ⟨l2,vs,q1,q2,_⟩:=s.own j ds f1
    rw [h2] at q1;cases q1
    have n:=outT l j 0 nj ol
    refine (if_neg ?_).trans ol
    rw [iA n,q2];simp
  ·rcases get j _ h1 with ⟨rfl,z⟩|⟨nj,f1⟩
   ·cases z
    refine ⟨(o2 j true C p fs e).1,?_⟩
    refine ob.newtag (fun a t q n=>(if_pos n).trans (ou q)) fun a n=>?_
    by_cases y:nq j true H₀ G H ow a=none
    ·rw [iA y] at n;exact s.up.hh.free n
    ·cases y':nq j true H₀ G H ow a with
     | none=>exact absurd y' y
     | some t=>exact (mf y').2.2.2 rfl
   ·refine ⟨(o2 j m' C' p' fs'' f1).1,(o2 j m' C' p' fs'' f1).2.keep ⟨fun a t o q1 q=>keep a o q (outT a j t nj q1),u.gg,fun a t o q1 q n=>gn a o q n (outT a j t nj q1),fun a t o q1 q=>?_,fun a o _ _ n=>n⟩⟩
    refine (if_neg ?_).trans q1
    rw [iA (outT a j t nj q1),q];simp
 refine ⟨⟨u.sub,by simp [s.e.len],fun j d h=>?_,ob'.rd⟩,s.sub0,up,fun j ds h=>?_,fun j k ds es l q1 q2 q3 q4=>?_,ob'⟩
 ·rcases get j _ h with ⟨_,z⟩|⟨_,f1⟩
  ·cases z
  ·obtain ⟨v,p1,p2⟩:=s.e.val j d f1
   exact ⟨v,p1,p2.mono u.gg⟩
 ·rcases get j _ h with ⟨_,z⟩|⟨nj,f1⟩
  ·cases z
  ·obtain ⟨l,vs,p1,p2,p3,p4,p5⟩:=s.own j ds f1
   have n:=outT l j 0 nj (o1 j ds l f1 p1)
   exact ⟨l,vs,p1,keep l _ p2 n,gn l _ p2 p3 n,p4,p5.mono u.gg⟩
 ·rcases get j _ q1 with ⟨_,z⟩|⟨nj,f1⟩
  ·cases z
  ·rcases get k _ q2 with ⟨_,z⟩|⟨nk,f2⟩
   ·cases z
   ·exact s.inj j k ds es l f1 f2 q3 q4
end L2
variable {F I_offer_with_order:L2.MF}
namespace L2
open PySem PySem.Spec PyProof.Rows
noncomputable def sf (k:Nat) (fd:Fd):List (Nat×Fd)->List (Nat×Fd)
 | []=>[(k,fd)]
 | (j,x)::r=>if j=k then (j,fd)::r else (j,x)::sf k fd r
theorem StR.objTo {K:PySem.W.Frag} {H₀:Hp} {p:Addr} {fs:List (Nat×Fd)} {ow2:kj} (s:StR K G₀ H₀ G H σ ρ) (e:ρ[i]?=some (some (.obj true C p fs))) (o1:∀ (j:Nat) ds l,ρ[j]?=some (some (.own ds))->σ[j]?=some (some (.ref l))->ow l=some (j,0))
 (o2:∀ (j:Nat) m C p fs,ρ[j]?=some (some (.obj m C p fs))->σ[j]?=some (some (.ref p))/\ObjAt K H₀ G H ow j m C p fs)
 (hh:∀ a o,H a=some o->(∀ t,ow a≠some (i,t))->H' a=some o) (h0:Same H₀ H') (sub:Same G H') (oo:∀ a j t o,j≠i->ow a=some (j,t)->H a=some o->ow2 a=some (j,t)) (ob:ObjAt K H₀ G H' ow2 i true C p fs'):StR K G₀ H₀ G H' σ (ρ.set i (some (.obj true C p fs'))):=by
 have hl:i<ρ.length:=(List.getElem?_eq_some_iff.mp e).1
 have get:∀ (j:Nat) x,(ρ.set i (some (.obj true C p fs')))[j]?=some (some x)->(j=i/\x=.obj true C p fs')\/(j≠i/\ρ[j]?=some (some x)):=fun j x h=>by
  by_cases z:i=j
  ·subst z
   rw [List.getElem?_set_self hl] at h
   exact .inl ⟨rfl,by injection (Option.some.inj h) with q;exact q.symm⟩
  ·rw [List.getElem?_set_ne z] at h
   exact .inr ⟨fun q=>z q.symm,h⟩
 have ob':ObSt K H₀ G H' σ (ρ.set i (some (.obj true C p fs'))):=by
  refine ⟨ow2,fun j ds l h1 h2=>?_,fun j m' C' p' fs'' h1=>?_⟩
  ·rcases get j _ h1 with ⟨_,z⟩|⟨nj,f1⟩
   ·cases z
   ·obtain ⟨l2,vs,q1,q2,_⟩:=s.own j ds f1
    rw [h2] at q1;cases q1
    exact oo l j 0 _ nj (o1 j ds l f1 h2) q2
  ·rcases get j _ h1 with ⟨rfl,z⟩|⟨nj,f1⟩
   ·cases z;exact ⟨(o2 j true C p fs e).1,ob⟩
   ·exact ⟨(o2 j m' C' p' fs'' f1).1,(o2 j m' C' p' fs'' f1).2.keep ⟨fun a t o q1 q=>hh a o q (fun t' z=>by rw [q1] at z;cases z;exact nj rfl),.refl _,fun a t o _ _ n=>n,fun a t o q1 q=>oo a j t o nj q1 q,fun a o _ _ n=>n⟩⟩
 refine ⟨⟨sub,by simp [s.e.len],fun j d h=>?_,ob'.rd⟩,s.sub0,⟨sub,s.up.gg,h0,s.up.fr⟩,fun j ds h=>?_,fun j k ds es l q1 q2 q3 q4=>?_,ob'⟩
 ·rcases get j _ h with ⟨_,z⟩|⟨_,f1⟩
  ·cases z
  ·exact s.e.val j d f1
 ·rcases get j _ h with ⟨_,z⟩|⟨nj,f1⟩
  ·cases z
  ·obtain ⟨l,vs,p1,p2,p3,p4,p5⟩:=s.own j ds f1
   exact ⟨l,vs,p1,hh l _ p2 (fun t z=>by rw [o1 j ds l f1 p1] at z;cases z;exact nj rfl),p3,p4,p5⟩
 ·rcases get j _ q1 with ⟨_,z⟩|⟨nj,f1⟩
  ·cases z
  ·rcases get k _ q2 with ⟨_,z⟩|⟨nk,f2⟩
   ·cases z
   ·exact s.inj j k ds es l f1 f2 q3 q4
noncomputable def Bf (C:Addr) (ρ:Ev) (i:Nat):R (List (Nat×Fd)):=match ρ[i]? with
 | some (some (.obj _ C' _ fs))=>if C'=C then .ok fs else .no
 | _=>.no
noncomputable def wq (C:Addr) (ρ:Ev) (i:Nat):R (Addr×List (Nat×Fd)):=match ρ[i]? with
 | some (some (.obj true C' p fs))=>if C'=C then .ok (p,fs) else .no
 | _=>.no
noncomputable def BQ (fs:List (Nat×Fd)) (k:Nat):R (List D):=match fs.lookup k with
 | some (.own ds)=>.ok ds
 | _=>.no
noncomputable def E0 (C:Addr) (i k:Nat) (gb:Ev->R D):Ev->R D:=fun ρ=>Bf C ρ i>>=fun fs=>BQ fs k>>=fun ds=>gb ρ>>=fun d=>ofO (ixD (.lst false ds) d)
noncomputable def B9 (C:Addr) (i k:Nat):Ev->R D:=fun ρ=>Bf C ρ i>>=fun fs=>BQ fs k>>=fun ds=>.ok (.int ds.length)
noncomputable def HR (C:Addr) (i k:Nat) (ga:Ev->R D):Ev->O:=fun ρ=>(wq C ρ i).out ρ fun o=>(BQ o.2 k).out ρ fun ds=>(ga ρ).out ρ fun d=>if ds.length<sizeLine then .nx (ρ.set i (some (.obj true C o.1 (sf k (.own (ds++[d])) o.2)))) else .no
noncomputable def Jl (C:Addr) (i k:Nat) (gl:Ev->R (List D)):Ev->O:=fun ρ=>(wq C ρ i).out ρ fun o=>(gl ρ).out ρ fun ds=>if o.2.length<900 then .nx (ρ.set i (some (.obj true C o.1 (sf k (.own ds) o.2)))) else .no
noncomputable def HV (ga:Ev->R D):Ev->O:=fun ρ=>(ga ρ).out ρ fun d=>.re d ρ
structure CF (K:PySem.W.Frag) (C:Addr) (ks:List Nat):Prop where
 cl:Cls K C
 ne:C≠DC
 na:∀ k∈ks,k<fnames.length/\FO K C (Fq k)
theorem B0 {H₀:Hp} {D:Ends} {k:Addr×List (Nat×Fd)->O} (h:nh X G₀ H₀ D ((wq C ρ i).out ρ k)):∃ p fs,ρ[i]?=some (some (.obj true C p fs))/\nh X G₀ H₀ D (k (p,fs)):=by
 unfold wq at h
 split at h
 ·rename_i C' p fs e
  by_cases z:C'=C
  ·subst z;rw [if_pos rfl] at h;exact ⟨p,fs,e,h⟩
  ·rw [if_neg z] at h;exact h.elim
 ·exact h.elim
structure MCallee (P:Program) (w:World) (K:PySem.W.Frag) (mg:Str->Option Value) (base:Heap) (C:Addr) (mn:Str) (k n:Nat) (F:MF):Prop where
 ex:∃ f fd ps,FnM P w K mg base k f fd ps C F/\Meth K C mn f/\Binds K fd ps []/\ps.length=n+1
section
variable {X:Cx} {pins:List (Addr×Obj)} {σ:St} {G H:Hp} {s:Shared} {k n:Nat} {f:Addr} {fd:FuncData} {ps:List Str} {C p:Addr} {F:MF} {us:List Value} {vs:List V} {ds:List D} {fs:List (Nat×Fd)} {ow:kj} {Q:VK}
theorem AY (M:FnM X.prog X.w X.K X.mg X.base k f fd ps C F) (hr:Room k X.A) (hb:Binds X.K fd ps []) (hl:ps.length=n+1) (I:Inv X pins σ H s) (r:Vals vs us) (rp:Reps X.K G vs ds) (hn:ds.length=n) (sub:Same G H) (og:∀ a t,ow a=some t->G a=none)
 (ob:ObjAt X.K (fun _=>none) G H ow 0 true C p fs) (h:match F fs ds with
 | .ok d fs'=>∀ v G' H' ow',Up G (hid H ow) G' H'->ObjAt X.K (hid H ow) G' H' ow' 0 true C p fs'->Rep X.K G' v d->Q v H'
 | .rd d=>∀ v G' H',Up G H G' H'->Rep X.K G' v d->Q v H'
 | .ex C'=>Exx X σ G H C'
 | .no=>False):wpAny (model X.prog X.w) X.A (call (.ref f) (.ref p::us)) (EP X pins σ Q) X.xe s:=by
 have hvl:(V.ref p::vs).length=ps.length:=by rw [hl,List.length_cons,rp.length,hn]
 have hul:(Value.ref p::us++[]).length=ps.length:=by rw [List.append_nil,List.length_cons,<- r.length,<- List.length_cons (a:=V.ref p)];exact hvl
 have hbb:=hb s (.ref p::us) I.kIn hul
 rw [List.append_nil] at hbb
 refine wpAny_call (codeAny_mono (M.run X.A X.stack s H ⟨.ref p::us,[]⟩ (.ref p::us) (.ref p::vs) Q (fun c _ H'=>∃ C G',c=.ref C/\Up G H G' H'/\Exx X σ G H C) hr I.env0 hbb (.cons rfl r) ⟨hvl,G,p,vs,ds,fs,ow,rfl,rp,sub,og,ob,?_⟩) fun r' s' hq=>?_)
 ·cases q:F fs ds with
  | ok d fs'=>rw [q] at h;exact h
  | rd d=>rw [q] at h;exact h
  | ex C'=>rw [q] at h;exact fun G' H' u=>⟨C',G',rfl,u,h⟩
  | no=>rw [q] at h;exact h.elim
 ·cases r' with
  | error e'=>
   obtain ⟨a,C,H',rfl,fl,C',G',ec,u,q⟩:=hq
   cases ec
   exact q _ _ ⟨G,H,.refl sub,pins,s,a,rfl,I,.inr (.inl ⟨G',H',fl,u⟩)⟩
  | ok fl=>
   cases fl with
   | ret u=>exact I.after hq
   | _=>exact False.elim hq
end
noncomputable def RM.read:RM->R D
 | .rd d=>.ok d
 | .ex C=>.ex C
 | _=>.no
noncomputable def EV (C:Addr) (i n:Nat) (F:MF) (gl:Ev->R (List D)):Ev->R D:=fun ρ=>Bf C ρ i>>=fun fs=>gl ρ>>=fun ds=>if ds.length=n then (F fs ds).read else .no
noncomputable def Ce (C:Addr) (i:Nat) (F:MF):Ev->R D:=fun ρ=>Bf C ρ i>>=fun fs=>(F fs []).read
noncomputable def RM.out (r:RM) (C p:Addr) (i:Nat) (ρ:Ev):O:=match r with
 | .ok _ fs'=>.nx (ρ.set i (some (.obj true C p fs')))
 | .rd _=>.nx ρ
 | .ex E=>.ex E ρ
 | .no=>.no
noncomputable def Hz (C:Addr) (i n:Nat) (F:MF) (gl:Ev->R (List D)):Ev->O:=fun ρ=>(wq C ρ i).out ρ fun o=>(gl ρ).out ρ fun ds=>if ds.length=n then (F o.2 ds).out C o.1 i ρ else .no
noncomputable def EI (C:Addr) (i:Nat) (F:MF):Ev->O:=fun ρ=>(wq C ρ i).out ρ fun o=>(F o.2 []).out C o.1 i ρ
structure MkC (P:Program) (w:World) (K:PySem.W.Frag) (mg:Str->Option Value) (base:Heap) (C:Addr) (cn:Str) (k n:Nat) (F:MF):Prop where
 ex:∃ f fd ps,FnM P w K mg base k f fd ps C F/\Mk K C f/\mg cn=some (.ref C)/\Binds K fd ps []/\ps.length=n+1
 ne:C≠DC
theorem StR.setObj {K:PySem.W.Frag} {H₀ G':Hp} {x:Addr} {fs:List (Nat×Fd)} {ow':kj} (s:StR K G₀ H₀ G H σ ρ) (u:Up G H G' H') (ob:ObjAt K H G' H' ow' 0 true C x fs) (i:Nat):StR K G₀ H₀ G' H' (σ.set i (some (.ref x))) (ρ.set i (some (.obj true C x fs))):=by
 have get:∀ (j:Nat) y,(ρ.set i (some (.obj true C x fs)))[j]?=some (some y)->(j=i/\y=.obj true C x fs/\i<σ.length)\/(j≠i/\ρ[j]?=some (some y)/\(σ.set i (some (.ref x)))[j]?=σ[j]?):=fun j y h=>by
  by_cases e:i=j
  ·subst e
   have hl:i<ρ.length:=by
    have:=(List.getElem?_eq_some_iff.mp h).1
    simpa using this
   rw [List.getElem?_set_self hl] at h
   exact .inl ⟨rfl,by injection (Option.some.inj h) with q;exact q.symm,by rw [s.e.len];exact hl⟩
  ·rw [List.getElem?_set_ne e] at h
   exact .inr ⟨fun z=>e z.symm,h,List.getElem?_set_ne e⟩
 have s1:=s.ups u
 have ob':ObSt K H₀ G' H' (σ.set i (some (.ref x))) (ρ.set i (some (.obj true C x fs))):=by
  obtain ⟨ow,o1,o2⟩:=s.ob
  refine ⟨fun a=>open Classical in if H a=none then sI 0 i ow' a else ow a,fun j ds l h1 h2=>?_,fun j m' C' p' fs' h1=>?_⟩
  ·rcases get j _ h1 with ⟨_,z,_⟩|⟨nj,f1,f2⟩
   ·cases z
   ·rw [f2] at h2
    obtain ⟨l2,vs,q1,q2,_⟩:=s.own j ds f1
    rw [h2] at q1;cases q1
    exact (if_neg (by rw [q2];simp)).trans (o1 j ds l f1 h2)
  ·rcases get j _ h1 with ⟨rfl,z,hj⟩|⟨nj,f1,f2⟩
   ·cases z
    exact ⟨List.getElem?_set_self hj,ob.newtag (fun a t q n=>(if_pos n).trans (ou q)) fun a n=>s.up.hh.free n⟩
   ·rw [f2]
    have ku:ObKeep H₀ H₀ G H G' H' ow ow j:=.up u
    exact ⟨(o2 j m' C' p' fs' f1).1,(o2 j m' C' p' fs' f1).2.keep ⟨ku.hh,ku.gg,ku.gn,fun a t o q1 q2=>(if_neg (by rw [q2];simp)).trans q1,ku.h0⟩⟩
 refine ⟨⟨s1.e.sub,by simp [s1.e.len],fun j d h=>?_,ob'.rd⟩,s1.sub0,s1.up,fun j ds h=>?_,fun j k ds es l q1 q2 q3 q4=>?_,ob'⟩
 ·rcases get j _ h with ⟨_,z,_⟩|⟨_,f1,f2⟩
  ·cases z
  ·rw [f2];exact s1.e.val j d f1
 ·rcases get j _ h with ⟨_,z,_⟩|⟨nj,f1,f2⟩
  ·cases z
  ·rw [f2];exact s1.own j ds f1
 ·rcases get j _ q1 with ⟨_,z,_⟩|⟨nj,f1,f2⟩
  ·cases z
  ·rcases get k _ q2 with ⟨_,z,_⟩|⟨nk,f3,f4⟩
   ·cases z
   ·exact s1.inj j k ds es l f1 f3 (f2 ▸ q3) (f4 ▸ q4)
noncomputable def KD {α:Type} (X:Cx) (sts:List Stmt) (g:α->Ev->O):Prop:=∀ G₀ H₀,PSs X sts (fun D σ H=>∃ G ρ,StR X.K G₀ H₀ G H σ ρ/\∀ q,nh X G₀ H₀ D (g q ρ))
section
variable {X:Cx} {st:Stmt} {cG:List Stmt} {g1:Ev->O} {gs:Ev->O} {α:Type} {g2:α->Ev->O} {e:Expr} {es:List Expr} {gl gl':Ev->R (List D)} {cn:Str} {k n:Nat} {C:Addr} {F:MF} {p pos:Pos}
noncomputable def CI (g:Ev->O):Unit->Ev->O:=fun _=>g
end
noncomputable def Bo (X:Cx) (G₀ H₀:Hp) (σ:St) (Q:VK) (o:O):Prop:=match o with
 | .re d ρ=>∀ v G H,StR X.K G₀ H₀ G H σ ρ->Rep X.K G v d->Q v H
 | .ex C ρ=>∀ e s',FlyS X G₀ H₀ ρ C e s'->X.xe e s'
 | _=>False
noncomputable def tX (X:Cx) (G₀ H₀:Hp) (g:Ev->O):TE:=fun σ H Q=>∃ G ρ,StR X.K G₀ H₀ G H σ ρ/\Bo X G₀ H₀ σ Q (g ρ)
noncomputable def QFX (X:Cx) (e:Expr) (g:Ev->O):Prop:=∀ G₀ H₀,PE X e (tX X G₀ H₀ g)
noncomputable def O.thenX (o:O) (k:D->Ev->O):O:=match o with
 | .re d ρ=>k d ρ
 | .ex C ρ=>.ex C ρ
 | _=>.no
section
variable {X:Cx} {e a b c:Expr} {cG:List Expr} {g g1 g2:Ev->O} {ga gb:Ev->R D} {gt:Ev->R Bool} {pos:Pos} {s1 s2:List Stmt} {h1 h2:Ev->O}
theorem Exx.fly {H₀:Hp} (sr:StR X.K G₀ H₀ G H σ ρ) (h:∀ e s',FlyS X G₀ H₀ ρ C e s'->X.xe e s'):Exx X σ G H C:=fun e s' ⟨G1,H1,u,f⟩=>h e s' (.of (sr.ups u) f)
theorem tX.read {α β:Type} {rep:Hp->β->α->Prop} {H₀:Hp} {m:Ev->R α} {Q:β->Hp->Prop} (sr:StR X.K G₀ H₀ G H σ ρ) (hk:∀ a,m ρ=.ok a->∀ v G1 H1,Up G H G1 H1->StR X.K G₀ H₀ G1 H1 σ ρ->rep G1 v a->Q v H1) (he:∀ C,m ρ=.ex C->∀ e s',FlyS X G₀ H₀ ρ C e s'->X.xe e s') (hn:m ρ ≠ .no):tG X rep m σ H Q:=by
 refine ⟨G,ρ,sr.e,?_⟩
 cases q:m ρ with
 | ok a=>exact fun v G' H' u r=>hk a q v G' H' u (sr.ups u) r
 | ex C=>exact Exx.fly sr (he C q)
 | no=>exact absurd q hn
end
noncomputable def GK (C:Addr) (ρ:Ev) (i:Nat):R (Bool×Addr×List (Nat×Fd)):=match ρ[i]? with
 | some (some (.obj m C' p fs))=>if C'=C then .ok (m,p,fs) else .no
 | _=>.no
noncomputable def RM.outX (r:RM) (m:Bool) (C p:Addr) (i:Nat) (ρ:Ev):O:=match r with
 | .ok d fs'=>if m=true then .re d (ρ.set i (some (.obj true C p fs'))) else .no
 | .rd d=>.re d ρ
 | .ex E=>.ex E ρ
 | .no=>.no
noncomputable def ja (C:Addr) (i n:Nat) (F:MF) (gl:Ev->R (List D)):Ev->O:=fun ρ=>(GK C ρ i).out ρ fun o=>(gl ρ).out ρ fun ds=>if ds.length=n then (F o.2.2 ds).outX o.1 C o.2.1 i ρ else .no
theorem DD {H₀:Hp} {Q:VK} {k:Bool×Addr×List (Nat×Fd)->O} (h:Bo X G₀ H₀ σ Q ((GK C ρ i).out ρ k)):∃ m p fs,ρ[i]?=some (some (.obj m C p fs))/\Bo X G₀ H₀ σ Q (k (m,p,fs)):=by
 unfold GK at h
 split at h
 ·rename_i m C' p fs e
  by_cases z:C'=C
  ·subst z;rw [if_pos rfl] at h;exact ⟨m,p,fs,e,h⟩
  ·rw [if_neg z] at h;exact h.elim
 ·exact h.elim
section
variable {X:Cx} {e:Expr} {es:List Expr} {gl:Ev->R (List D)} {x y mn:Str} {i k n:Nat} {C:Addr} {ks:List Nat} {F:MF} {p1 ap pos ep:Pos}
theorem Fu {H₀:Hp} {Q:VK} {Q':List V->Hp->Prop} {r:List D->O} (sr:StR X.K G₀ H₀ G H σ ρ) (h:Bo X G₀ H₀ σ Q ((gl ρ).out ρ fun ds=>if ds.length=n then r ds else .no))
 (hk:∀ vs G1 H1 ds,StR X.K G₀ H₀ G1 H1 σ ρ->Reps X.K G1 vs ds->ds.length=n->Bo X G₀ H₀ σ Q (r ds)->Q' vs H1):tAF X gl σ H Q':=by
 refine tX.read sr (fun ds e vs G1 H1 u s1 rr=>?_) (fun C e=>?_) fun e=>?_
 ·rw [e] at h
  have h:Bo X G₀ H₀ σ Q (if ds.length=n then r ds else .no):=h
  by_cases hz:ds.length=n
  ·rw [if_pos hz] at h;exact hk vs G1 H1 ds s1 rr hz h
  ·rw [if_neg hz] at h;exact h.elim
 ·rw [e] at h;exact h
 ·rw [e] at h;exact h
theorem vR {H₀:Hp} {p:Addr} {fs:List (Nat×Fd)} {Q:VK} {mm:Bool}
 (M:FnM X.prog X.w X.K X.mg X.base k f fd ps C F) (hr:Room k X.A) (hb:Binds X.K fd ps []) (hl:ps.length=n+1) (I:Inv X pins σ H s) (r:Vals vs us) (rp:Reps X.K G vs ds) (hz:ds.length=n) (sr:StR X.K G₀ H₀ G H σ ρ) (e1:ρ[i]?=some (some (.obj mm C p fs)))
 (h:Bo X G₀ H₀ σ Q ((F fs ds).outX mm C p i ρ)):wpAny (model X.prog X.w) X.A (call (.ref f) (.ref p::us)) (EP X pins σ Q) X.xe s:=by
 obtain ⟨ow1,o1,o2⟩:=sr.ob
 obtain ⟨_,ob1⟩:=o2 i mm C p fs e1
 refine AY M hr hb hl I r rp hz sr.e.sub (fun a t q=>(mf q).2.2.1) ob1.cut ?_
 cases q:F fs ds with
 | ok d fs'=>
  rw [q] at h
  cases mm with
  | false=>exact h.elim
  | true=>exact fun v G' H' ow' u ob rv=>h v G' H' (sr.meth e1 o1 o2 u ob) rv
 | rd d=>rw [q] at h;exact fun v G' H' u rv=>h v G' H' (sr.ups u) rv
 | ex C'=>rw [q] at h;exact Exx.fly sr h
 | no=>rw [q] at h;exact h.elim
end
structure CalleeM (P:Program) (w:World) (K:PySem.W.Frag) (mg:Str->Option Value) (base:Heap) (C:Addr) (x:Str) (k n:Nat) (F:MF):Prop where
 ex:∃ f fd ps,FnM P w K mg base k f fd ps C F/\mg x=some (.ref f)/\PySem.W.keepIn K (.ref f)=true/\Binds K fd ps []/\ps.length=n+1
theorem CalleeM.mono {w:World} {K:PySem.W.Frag} {mg:Str->Option Value} {base:Heap} {n:Nat} (c:CalleeM P w K mg base C x k n F) (k':Nat) (h:k<=k':=by decide):CalleeM P w K mg base C x k' n F:=by
 obtain ⟨f,fd,ps,M,hm,hk,hb,e⟩:=c.ex
 exact ⟨f,fd,ps,{ M with run:=fun A outer s H args us vs Q E hr=>M.run A outer s H args us vs Q E (hr.mono h) },hm,hk,hb,e⟩
noncomputable def Ep (P:Program) (w:World) (K:PySem.W.Frag) (mg:Str->Option Value) (base:Heap) (k:Nat) (s1:Shared) (G1 H1:Hp) (f:Addr) (Q:VK):Prop:=
 ∀ (Y:Cx) (pins:List (Addr×Obj)) (σY:St) (G2 H2:Hp) (s2:Shared) (fs:List Addr),Y.prog=P->Y.w=w->Y.K=K->Y.mg=mg->Y.base=base->Inv Y pins σY H2 s2->Room k Y.A->Un fs [] H1 H2 s1.heap s2.heap->Up G1 H1 G2 H2->
  (∃ o fd,s2.heap.get? f=some o/\o.data=.func fd)/\wpAny (model Y.prog Y.w) Y.A (call (.ref f) []) (EP Y pins σY Q) Y.xe s2
structure ToldOk (P:Program) (w:World) (K:PySem.W.Frag) (mg:Str->Option Value) (base:Heap) (x:Str) (k j:Nat):Prop where
 ex:∃ ft,mg x=some (.ref ft)/\PySem.W.keepIn K (.ref ft)=true/\∀ (A:Around) (outer:List Env) (s1:Shared) (G1 H1:Hp) (f:Addr) (Q:VK) (E:XK),Room k A->Env0 P w K mg base A outer s1 H1->Same G1 H1->Ep P w K mg base j s1 G1 H1 f Q->
  codeAny (model P w) A (.call (.ref ft) ⟨[.ref f],[]⟩) (CR (CXo P w) outer P w H1 s1 Q E) s1
noncomputable def dZ (g:Ev->O):Ev->O:=fun ρ=>(g ρ).thenX fun _ ρ'=>.nx ρ'
end L2
namespace L2
open PySem PySem.Spec PyProof.Rows
open PySem.AutoSeq1 (wpAny_loadPart')
open PySem.MeetsSeq PySem.MeetsSeq2 PySem.MeetsSeq3
inductive NumPairs:List (Value×Value)->List Int->List Int->Prop
 | nil:NumPairs [] [] []
 | cons {zs:List (Value×Value)} {xs ys:List Int} (i:Int) (t:Addr) (j:Int) (u:Addr) (r:NumPairs zs xs ys):NumPairs ((.int i t,.int j u)::zs) (i::xs) (j::ys)
end L2
namespace L2
open PySem PySem.Spec PyProof.Rows
section
variable {X:Cx} {elt iter:Expr} {ifs:List Expr} {x:Str} {px pos:Pos} {scope:Scope} {gi:Ev->R (List D)} {gt:Ev->R Bool} {ge:Ev->R D}
structure CompOkC (X:Cx) (scope:Scope) (x:Str):Prop where
 kind:scope.kind=.function
 names:∀ y∈scope.names,y.2=.local->scope.names.lookup y.1=some .local
 nofree:∀ y∈scope.names,y.2 ≠ .free
 cells:∀ L,cellsFrom L scope.names []=[(x,L)]
 lk:scope.names.lookup x=some .cell
 only:∀ y,scope.names.lookup y=some .cell->y=x
end
noncomputable abbrev TF:=List (Nat×Fd)->Option (List (Nat×Fd))
noncomputable def spT (K:PySem.W.Frag) (C:Addr) (F:TF):Sp:=fun vs H Q E=>∃ G p fs ow,vs=[.ref p]/\Same G H/\(∀ a t,ow a=some t->G a=none)/\ObjAt K (fun _=>none) G H ow 0 true C p fs/\
 ∃ fs',F fs=some fs'/\∀ x G' H' ow',Up G H G' H'->ObjAt K H G' H' ow' 0 true C x fs'->Q (.ref x) H'
noncomputable abbrev FnT (P:Program) (w:World) (K:PySem.W.Frag) (mg:Str->Option Value) (base:Heap) (k:Nat) (f:Addr) (fd:FuncData) (ps:List Str) (C:Addr) (F:TF):Prop:=FnOk P w K mg base (CXo P w) k f fd ps (fun vs H Q E=>vs.length=ps.length/\spT K C F vs H Q E)
structure TCallee (P:Program) (w:World) (K:PySem.W.Frag) (mg:Str->Option Value) (base:Heap) (C:Addr) (mn:Str) (k:Nat) (F:TF):Prop where
 ex:∃ f fd ps,FnT P w K mg base k f fd ps C F/\Meth K C mn f/\Binds K fd ps []/\ps.length=1
noncomputable def se:D->Option Nat
 | .tup [.bl a,.bl b]=>some (code a b)
 | _=>none
noncomputable def fvs:List (Nat×Fd)->Option (List (Nat×D))
 | []=>some []
 | (k,.val d)::r=>(fvs r).map ((k,d)::·)
 | (_,.own _)::_=>none
noncomputable def qQ (ρ:Ev) (i:Nat):R (List (Nat×D)):=match ρ[i]? with
 | some (some (.val (.dct ks ds)))=>.ok (ks.zip ds)
 | some (some (.obj _ C _ fs))=>if C=DC then ofO (fvs fs) else .no
 | _=>.no
theorem xw (e:qQ ρ i=.ex C):False:=by
 unfold qQ at e
 split at e
 ·cases e
 ·split at e
  ·revert e;unfold ofO;split <;> exact fun z=>nomatch z
  ·cases e
 ·cases e
theorem sG:∀ (ks:List Nat) (ds:List D),fvs (ks.zip (ds.map Fd.val))=some (ks.zip ds)
 | [],_=>rfl
 | _::_,[]=>rfl
 | k::ks,d::ds=>by simp only [List.map_cons,List.zip_cons_cons,fvs,sG ks ds,Option.map_some]
theorem vt:∀ a b c d:Bool,code a b=code c d->a=c/\b=d:=by decide
section
variable {K:PySem.W.Frag} {G H:Hp}
theorem KeysAt.inH (s:Same G H):∀ {xs:DX} {ks:List Nat},KeysAt K G xs ks->gW K H xs
 | _,_,.nil,x,hx=>nomatch hx
 | _,_,.cons h t,x,hx=>by
  rcases List.mem_cons.1 hx with rfl|hx
  ·exact h.mono s
  ·exact KeysAt.inH s t x hx
theorem KeysAt.twos:∀ {xs:DX} {ks:List Nat},KeysAt K G xs ks->IY xs
 | _,_,.nil,x,hx=>nomatch hx
 | _,_,.cons h t,x,hx=>by
  rcases List.mem_cons.1 hx with rfl|hx
  ·exact ⟨_,_,rfl⟩
  ·exact KeysAt.twos t x hx
theorem KeysAt.length:∀ {xs:DX} {ks:List Nat},KeysAt K G xs ks->xs.length=ks.length
 | _,_,.nil=>rfl
 | _,_,.cons _ t=>by simp [t.length]
theorem KeysAt.look {a b:Bool}:∀ {xs:DX} {ks:List Nat} {ds:List D},KeysAt K G xs ks->Reps K G (xs.map (·.2.2)) ds->
  ((ks.zip ds).lookup (code a b)=none/\ni xs [a,b]=none)\/∃ d v,(ks.zip ds).lookup (code a b)=some d/\ni xs [a,b]=some v/\Rep K G v d
 | _,_,_,.nil,.nil=>.inl ⟨rfl,rfl⟩
 | _,_,_,.cons (a:=c) (b:=e) h t,.cons r q=>by
  by_cases z:[c,e]=[a,b]
  ·cases z
   exact .inr ⟨_,_,by simp [List.lookup_cons],by simp [ni,List.find?_cons],r⟩
  ·have z':(code a b==code c e)=false:=beq_eq_false_iff_ne.2 fun y=>z (by obtain ⟨rfl,rfl⟩:=vt _ _ _ _ y;rfl)
   rcases t.look q with ⟨e1,e2⟩|⟨d,v,e1,e2,e3⟩
   ·exact .inl ⟨by simp only [List.zip_cons_cons,List.lookup_cons,z'];exact e1,by unfold ni at e2 ⊢;simp only [List.find?_cons,z,decide_false];exact e2⟩
   ·exact .inr ⟨d,v,by simp only [List.zip_cons_cons,List.lookup_cons,z'];exact e1,by unfold ni at e2 ⊢;simp only [List.find?_cons,z,decide_false];exact e2,e3⟩
theorem kZ {n:Nat} (e:se d=some n) (r:Rep K G v d):∃ q a b,v=.ref q/\n=code a b/\SqT K G q [.bl a,.bl b]:=by
 unfold se at e
 split at e
 ·rename_i a b
  cases e
  obtain ⟨q,vs,rfl,hq,rs⟩:=r.tup_inv
  cases rs with
  | cons r1 t=>
   cases t with
   | cons r2 t=>
    cases t
    obtain rfl:=r1.bl_inv
    obtain rfl:=r2.bl_inv
    exact ⟨q,a,b,rfl,rfl,hq⟩
 ·cases e
theorem StE.dct {σ:St} {ρ:Ev} {i:Nat} {kv:List (Nat×D)} (st:StE K G H σ ρ) (e:qQ ρ i=.ok kv) :
  ∃ a o xs ks ds,σ[i]?=some (some (.ref a))/\H a=some (DctO a o xs)/\KeysAt K G xs ks/\Reps K G (xs.map (·.2.2)) ds/\kv=ks.zip ds:=by
 unfold qQ at e
 split at e
 ·rename_i ks ds q
  cases e
  obtain ⟨v,h1,r⟩:=st.val i _ q
  cases r with
  | dct h k r=>exact ⟨_,_,_,ks,ds,h1,st.sub _ _ h,k,r,rfl⟩
 ·rename_i m C p fs q
  split at e
  ·rename_i z
   obtain ⟨h1,ow,ob⟩:=st.obs i m C p fs q
   rw [z] at ob
   obtain ⟨o,xs,ks,ds,g1,g2,g3,g4,g5,g6,g7⟩:=ob.dco
   rw [g7,sG] at e
   cases e
   exact ⟨p,o,xs,ks,ds,h1,g1,g5,g6,rfl⟩
  ·cases e
 ·cases e
end
section
variable {X:Cx} {e:Expr} {ge ga:Ev->R D} {x:Str} {p pos:Pos}
noncomputable def IE (K:PySem.W.Frag) (neg:Bool):R2:=fun x y H Q=>∃ q k a o xs,x=.ref q/\y=.ref a/\H a=some (DctO a o xs)/\gW K H xs/\SqT K H q (k.map V.bl)/\Q (.bl (if neg then !(ni xs k).isSome else (ni xs k).isSome)) H
theorem Fi (hu:X.A.units+64<cLine):OpR X (compareOp .In) (IE X.K false):=by
 intro pins s σ H x y v u Q I rx ry ⟨q,k,a,o,xs,ex,ey,h1,h2,h3,h4⟩
 subst ex ey
 cases rx
 cases ry
 exact Ea (by omega) I h1 h2 h3 fun s' I'=>⟨.bl _,H,I',rfl,h4⟩
theorem DW (hu:X.A.units+64<cLine):OpR X (compareOp .NotIn) (IE X.K true):=by
 intro pins s σ H x y v u Q I rx ry ⟨q,k,a,o,xs,ex,ey,h1,h2,h3,h4⟩
 subst ex ey
 cases rx
 cases ry
 exact yc (by omega) I h1 h2 h3 fun s' I'=>⟨.bl _,H,I',rfl,h4⟩
noncomputable def qb (neg:Bool) (i:Nat) (ge:Ev->R D):Ev->R Bool:=fun ρ=>ge ρ>>=fun d=>ofO (se d)>>=fun n=>qQ ρ i>>=fun kv=>.ok (if neg then !(kv.lookup n).isSome else (kv.lookup n).isSome)
theorem uN {Q:Bool->Hp->Prop} (h:tTF X (qb neg i ge) σ H Q):Cc (tOp (IE X.K neg) (tF X ge) (GJ i)) σ H Q:=by
 obtain ⟨G,ρ,st,h⟩:=h
 refine tG.intro st h fun d v G1 H1 u1 st1 r1 h1=>?_
 obtain ⟨n,e1,h1⟩:∃ n,se d=some n/\(qQ ρ i>>=fun kv=>R.ok (if neg then !(kv.lookup n).isSome else (kv.lookup n).isSome)).post (Fin G1 H1 (fun _ b c=>b=c) Q) (Exx X σ G1 H1):=by
  cases q:se d with
  | none=>rw [q] at h1;exact h1.elim
  | some n=>rw [q] at h1;exact ⟨n,rfl,h1⟩
 cases q0:qQ ρ i with
 | ok kv=>
  rw [q0] at h1
  obtain ⟨q,a,b,rfl,rfl,hq⟩:=kZ e1 r1
  obtain ⟨c,o,xs,ks,ds,g1,g2,g3,g4,rfl⟩:=st1.dct q0
  refine ⟨.ref c,g1,q,[a,b],c,o,xs,rfl,rfl,g2,g3.inH st1.sub,hq.mono st1.sub,_,rfl,?_⟩
  have e2:(ni xs [a,b]).isSome=((ks.zip ds).lookup (code a b)).isSome:=by
   rcases g3.look g4 with ⟨y1,y2⟩|⟨d,v,y1,y2,_⟩ <;> rw [y1,y2] <;> rfl
  rw [e2]
  exact h1 _ G1 H1 (.refl st1.sub) rfl
 | ex C=>exact (xw q0).elim
 | no=>rw [q0] at h1;exact h1.elim
noncomputable def HX (K:PySem.W.Frag):R2:=fun x y H Q=>∃ a o xs q k v,x=.ref a/\y=.ref q/\H a=some (DctO a o xs)/\gW K H xs/\SqT K H q (k.map V.bl)/\ni xs k=some v/\Q v H
theorem Gc (hu:X.A.units+64<cLine):IxR X (HX X.K):=by
 intro value slice pins s σ H x y v u Q I rx ry ⟨a,o,xs,q,k,w,ex,ey,h1,h2,h3,h4,h5⟩ hs
 subst ex ey
 cases rx
 cases ry
 obtain ⟨g1,_,_,g2,_⟩:=mC I h1
 exact tail_any (T:="dict") ⟨o,g1,g2.1⟩ PySem.F.slot_dict_getitem.lookup (DA (by omega) I h1 h2 h3 h4 fun w' s' I' r=>⟨w,H,I',r,h5⟩) hs
noncomputable def gy (i:Nat) (ge:Ev->R D):Ev->R D:=fun ρ=>qQ ρ i>>=fun kv=>ge ρ>>=fun d=>ofO ((se d).bind fun n=>kv.lookup n)
end
section
variable {K:PySem.W.Frag} {G:Hp} {a b:Bool} {q:Addr} {v:V} {d:D}
theorem KeysAt.same:∀ {xs:DX} {ks:List Nat},KeysAt K G xs ks->[a,b] ∉ xs.map (·.1)->xs.map (fun x=>if x.1=[a,b] then (x.1,x.2.1,v) else x)=xs
 | _,_,.nil,_=>rfl
 | _,_,.cons (a:=c) (b:=e) h t,n=>by
  rw [List.map_cons,List.mem_cons,not_or] at n
  rw [List.map_cons,if_neg (fun z=>n.1 z.symm),t.same n.2]
theorem yZ {n:Nat} {fd:Fd}:∀ {fs:List (Nat×Fd)},fs.lookup n=none->sf n fd fs=fs++[(n,fd)]
 | [],_=>rfl
 | (k,f)::fs,h=>by
  have ne:(n==k)=false:=by
   cases z:n==k with
   | false=>rfl
   | true=>simp only [List.lookup_cons,z] at h;cases h
  simp only [List.lookup_cons,ne] at h
  unfold sf
  rw [if_neg (fun z=>by rw [z] at ne;simp at ne),yZ h];rfl
theorem KeysAt.snoc:∀ {xs:DX} {ks:List Nat},KeysAt K G xs ks->SqT K G q [.bl a,.bl b]->KeysAt K G (xs++[([a,b],q,v)]) (ks++[code a b])
 | _,_,.nil,h=>.cons h .nil
 | _,_,.cons h t,z=>.cons h (t.snoc z)
theorem ml {n:Nat}:∀ {ks:List Nat} {ds:List D},(ks.zip ds).lookup n=none->(ks.zip (ds.map Fd.val)).lookup n=none
 | [],_,_=>rfl
 | _::_,[],_=>rfl
 | k::ks,d::ds,h=>by
  rw [List.zip_cons_cons,List.lookup_cons] at h
  rw [List.map_cons,List.zip_cons_cons,List.lookup_cons]
  cases z:n==k with
  | true=>rw [z] at h;cases h
  | false=>rw [z] at h;exact ml h
theorem KeysAt.over:∀ {xs:DX} {ks:List Nat} {ds:List D},KeysAt K G xs ks->Reps K G (xs.map (·.2.2)) ds->(xs.map (·.1)).Nodup->(ni xs [a,b]).isSome=true->Rep K G v d->
  KeysAt K G (xs.map fun x=>if x.1=[a,b] then (x.1,x.2.1,v) else x) ks/\∃ ds',Reps K G ((xs.map fun x=>if x.1=[a,b] then (x.1,x.2.1,v) else x).map (·.2.2)) ds'/\sf (code a b) (.val d) (ks.zip (ds.map Fd.val))=ks.zip (ds'.map Fd.val)
 | _,_,_,.nil,.nil,_,h,_=>by cases h
 | _,_,_,.cons (a:=c) (b:=e) (ks:=ks) (xs:=ys) h t,.cons (ds:=ds) r1 r2,n,hv,r=>by
  rw [List.map_cons,List.nodup_cons] at n
  by_cases z:[c,e]=[a,b]
  ·cases z
   rw [List.map_cons,if_pos rfl,t.same n.1]
   exact ⟨.cons h t,d::ds,.cons r r2,by simp [sf]⟩
  ·have z':code c e≠code a b:=fun y=>z (by obtain ⟨rfl,rfl⟩:=vt _ _ _ _ y;rfl)
   have hv':(ni ys [a,b]).isSome=true:=by unfold ni at hv ⊢;simpa only [List.find?_cons,z,decide_false] using hv
   obtain ⟨k1,ds',k2,k3⟩:=t.over r2 n.2 hv' r
   rw [List.map_cons,if_neg z]
   refine ⟨.cons h k1,_::ds',.cons r1 k2,?_⟩
   simp only [List.map_cons,List.zip_cons_cons,sf,if_neg z',k3]
theorem KeysAt.put {xs:DX} (k:KeysAt K G xs ks) (rs:Reps K G (xs.map (·.2.2)) ds) (n:(xs.map (·.1)).Nodup) (hq:SqT K G q [.bl a,.bl b]) (r:Rep K G v d) :
  ∃ ks' ds',KeysAt K G (Ae xs [a,b] q v) ks'/\Reps K G ((Ae xs [a,b] q v).map (·.2.2)) ds'/\sf (code a b) (.val d) (ks.zip (ds.map Fd.val))=ks'.zip (ds'.map Fd.val):=by
 unfold Ae
 by_cases z:(ni xs [a,b]).isSome=true
 ·rw [if_pos z]
  obtain ⟨k1,ds',k2,k3⟩:=k.over rs n z r
  exact ⟨ks,ds',k1,k2,k3⟩
 ·rw [if_neg z]
  refine ⟨ks++[code a b],ds++[d],k.snoc hq,?_,?_⟩
  ·rw [List.map_append];exact rs.append (.cons r .nil)
  ·rcases k.look (a:=a) (b:=b) rs with ⟨y1,_⟩|⟨_,_,_,y2,_⟩
   ·have ln:ks.length=(ds.map Fd.val).length:=by rw [List.length_map,<- rs.length,List.length_map,k.length]
    rw [yZ (ml y1),List.map_append,List.zip_append ln];rfl
   ·rw [y2] at z;exact absurd rfl z
end
theorem DRel.keys:∀ {xs:DX} {us:DU},DRel xs us->xs.map (·.1)=us.map (·.1)
 | _,_,.nil=>rfl
 | _,_,.cons h t=>by rw [List.map_cons,List.map_cons,h.1,DRel.keys t]
noncomputable def Hl (K:PySem.W.Frag):GP:=fun x y v H Q=>∃ a o xs q k,x=.ref a/\y=.ref q/\H a=some (DctO a o xs)/\gW K H xs/\SqT K H q (k.map V.bl)/\xs.length<sizeLine/\((xs.map (·.1)).Nodup->∀ o',Q (upd H a (DctO a o' (Ae xs k q v))))
section
variable {X:Cx} {e ix:Expr} {ge ga gk:Ev->R D} {x:Str} {p tp pos:Pos}
theorem Dy (hu:X.A.units+64<cLine):GX X (Hl X.K):=by
 intro pins s σ H o i v ov iv u Q I ro ri rv ⟨a,ob,xs,q,k,eo,ei,h1,h2,h3,h4,h5⟩
 subst eo ei
 cases ro
 cases ri
 obtain ⟨_,_,_,_,us,r,_,_,_,_,n⟩:=mC I h1
 rw [<- DRel.keys r] at n
 exact C1 (by omega) I h1 h2 h3 h4 rv fun o' s' I'=>⟨_,I',h5 n o'⟩
noncomputable def AO (i:Nat) (gk ga:Ev->R D):Ev->O:=fun ρ=>(wq DC ρ i).out ρ fun o=>(gh (ga ρ)).out ρ fun d=>(gh (gk ρ)).out ρ fun k=>match se k with
 | some n=>if o.2.length<900 then .nx (ρ.set i (some (.obj true DC o.1 (sf n (.val d) o.2)))) else .no
 | none=>.no
end
section
variable {X:Cx} {cG:List Stmt} {α:Type} {g2:α->Ev->O} {x y:Str} {e:Expr} {ga:Ev->R D} {p py pos pos':Pos}
theorem yH {K:PySem.W.Frag} {p:Addr} {o:Obj} {xs:DX} (s:Same G H) (hp:H p=none) (k:KeysAt K G xs ks) (r:Reps K G (xs.map (·.2.2)) ds) :
  Up G H G (upd H p (DctO p o xs))/\ObjAt K H G (upd H p (DctO p o xs)) (fun a=>if a=p then some (0,0) else none) 0 true DC p (ks.zip (ds.map Fd.val)):=
 ⟨⟨fun a u q=>by rw [aK (aF q (s.free hp))];exact s a u q,.refl _,.into hp,fun _ _ q=>.inl q⟩,.inr ⟨rfl,o,xs,ks,ds,aS,s.free hp,fun _=>hp,if_pos rfl,k,r,rfl⟩⟩
noncomputable def BG (i:Nat) (g2:α->Ev->O):Addr×α->Ev->O:=fun q ρ=>g2 q.2 (ρ.set i (some (.obj true DC q.1 [])))
noncomputable def zk (i:Nat) (ga:Ev->R D) (g2:α->Ev->O):Addr×α->Ev->O:=fun q ρ=>(gh (ga ρ)).out ρ fun d=>match d with
 | .dct (k::ks) ds=>g2 q.2 (ρ.set i (some (.obj true DC q.1 ((k::ks).zip (ds.map Fd.val)))))
 | _=>.no
noncomputable def qX (i:Nat):Ev->O:=fun ρ=>match ρ[i]? with
 | some (some (.obj true C _ fs))=>if C=DC then (match fvs fs with
  | some kv=>.rt (.dct (kv.map (·.1)) (kv.map (·.2)))
  | none=>.no) else .no
 | _=>.no
noncomputable def d1F:D->D->Option D:=fun k v=>(se k).map fun n=>.dct [n] [v]
noncomputable def gD1 (gk gv:Ev->R D):Ev->R D:=fun ρ=>gk ρ>>=fun k=>gv ρ>>=fun v=>ofO (d1F k v)
noncomputable def Ba (n:Nat):D:=.tup [.bl (n % 2==1),.bl (n / 2==1)]
noncomputable def xk:D->R (List D)
 | .dct ks ds=>.ok ((ks.zip ds).map fun z=>.tup [Ba z.1,z.2])
 | _=>.no
theorem ql:∀ a b:Bool,Ba (code a b)=.tup [.bl a,.bl b]:=by
 intro a b;cases a <;> cases b <;> rfl
theorem KeysAt.item {K:PySem.W.Frag}:∀ {xs:DX} {ks:List Nat} {ds:List D} {i:Nat} {y:List Bool×Addr×V},KeysAt K G xs ks->Reps K G (xs.map (·.2.2)) ds->xs[i]?=some y->∃ n d,(ks.zip ds)[i]?=some (n,d)/\Rep K G (.ref y.2.1) (Ba n)/\Rep K G y.2.2 d
 | _,_,_,_,_,.nil,_,e=>by simp at e
 | _,_,_,0,_,.cons (a:=a) (b:=b) h t,.cons r1 r2,e=>by
  simp at e
  subst e
  exact ⟨_,_,rfl,by rw [ql];exact .tup h (.cons (.bl a) (.cons (.bl b) .nil)),r1⟩
 | _,_,_,i+1,_,.cons h t,.cons r1 r2,e=>by
  obtain ⟨n,d,h1,h2⟩:=KeysAt.item (i:=i) t r2 (by simpa using e)
  exact ⟨n,d,by simpa using h1,h2⟩
theorem ItOk.dct {K:PySem.W.Frag} {o:Obj} {xs:DX} (h:G a=some (DctO a o xs)) (k:KeysAt K G xs ks) (r:Reps K G (xs.map (·.2.2)) ds):ItOk K G (Itd a o xs) ((ks.zip ds).map fun z=>.tup [Ba z.1,z.2]):=by
 intro i G1 H1 s1 s2
 have l1:=k.length
 have l2:=r.length
 rw [List.length_map] at l2
 have lz:((ks.zip ds).map fun z=>D.tup [Ba z.1,z.2]).length=xs.length:=by rw [List.length_map,List.length_zip];omega
 have hH:=s2 _ _ (s1 _ _ h)
 refine ⟨fun d e=>?_,fun hl=>⟨hH,by rw [lz] at hl;exact hl⟩⟩
 have hi:i<xs.length:=by rw [<- lz];exact (List.getElem?_eq_some_iff.1 e).1
 refine ⟨⟨hH,hi⟩,fun x H' ⟨p,y,ex,hp,hy,eH⟩=>?_⟩
 subst ex eH
 obtain ⟨n,d',e1,e2,e3⟩:=k.item r hy
 rw [List.getElem?_map,e1] at e
 cases e
 have gp:=s2.free hp
 exact ⟨upd G1 p (.tup [.ref y.2.1,y.2.2]),.new s2 hp,.tup (.of aS) (.cons ((e2.mono s1).mono (.into gp)) (.cons ((e3.mono s1).mono (.into gp)) .nil))⟩
end
noncomputable def qo (key:D->R D):D->Int->List D->R D
 | b,_,[]=>.ok b
 | b,kb,x::xs=>match key x with
  | .ok (.int kx)=>if kx<kb then qo key x kx xs else qo key b kb xs
  | _=>.no
noncomputable def oX (key:D->R D):List D->R D
 | x::xs=>(match key x with
  | .ok (.int kx)=>qo key x kx xs
  | _=>.no)
 | []=>.no
section
variable {X:Cx} {pins:List (Addr×Obj)} {σ:St} {G H:Hp} {s:Shared} {k:Nat} {f:Addr} {fd:FuncData} {ps:List Str} {g:List D->R D} {v:V} {u:Value} {d:D} {n:Int} {E:Value->Shared->Prop}
theorem va (F:FnF X.prog X.w X.K X.mg X.base k f fd ps g) (hr:Room k X.A.in1) (hh:X.A.handled=none) (hb:Binds X.K fd ps []) (hl:ps.length=1) (I:Inv X pins σ H s) (ru:RelV v u) (sub:Same G H) (rd:Rep X.K G v d) (e:g [d]=.ok (.int n)) :
  wpAny (model X.prog X.w) X.A.in1 (call (.ref f) [u]) (fun y s4=>∃ H4 t,y=.int n t/\Inv X pins σ H4 s4/\Same H H4/\Un (frs X.stack) [] H H4 s.heap s4.heap) E s:=by
 have J:Inv { X with A:=X.A.in1 } pins σ H s:=I.cx (A':=X.A.in1) (calm':=X.calm) (pn':=X.pn) (pins':=pins) (xe':=X.xe) (fun p q=>q) rfl (fun _=>hh)
 have hbb:=hb s [u] J.kIn (by rw [hl];rfl)
 refine wpAny_call (codeAny_mono (F.run X.A.in1 X.stack s H ⟨[u],[]⟩ [u] [v] (fun w H4=>w=.int n/\Same H H4) (fun _ _ _=>False) hr J.env0 hbb (.cons ru .nil) ⟨by rw [hl];rfl,G,[d],sub,.cons rd .nil,?_⟩) fun r s' hq=>?_)
 ·rw [e]
  exact fun w G' H' up rw'=>⟨rw'.int_inv,up.hh⟩
 ·cases r with
  | error z=>obtain ⟨_,_,_,_,_,z⟩:=hq;exact z.elim
  | ok fl=>
   cases fl with
   | ret y=>
    obtain ⟨w,H4,os4,bare4,un4,hok4,rk4,rfl,sm⟩:=hq
    obtain ⟨t,rfl⟩:=rk4
    exact ⟨H4,t,rfl,I.call' (s':=s') (ch:=[]) os4 un4 hok4 bare4 (fun b z=>absurd z (by simp)),sm,un4⟩
   | _=>exact False.elim hq
end
section
variable {X:Cx} {pins:List (Addr×Obj)} {σ:St} {G H0:Hp} {Ii S l f:Addr} {k:Nat} {fd:FuncData} {ps:List Str} {g:List D->R D} {vs:List V} {dd:D} {Rr:Result->Shared->Prop}
theorem Ff {prog:Program} {w:World} {A:Around} {i j:Int} {t u:Tok} {Q:Value->Shared->Prop} (h:Q (.bool (decide (i<j))) s):wpAny (model prog w) A (richCompare .Lt (.int i t) (.int j u)) Q E s:=
 richCompare_gives (op:=.Lt) (typeIs_int s _ t) (typeIs_int s _ u) PySem.F.slot_int_lt PySem.F.entry_int_lt (PySem.F.args_int_lt_2 _ _) (gives_int_lt _ _ t u) (fun x=>nomatch x) h
theorem yB (F:FnF X.prog X.w X.K X.mg X.base k f fd ps g) (hr:Room k X.A.in1) (hh:X.A.handled=none) (hb:Binds X.K fd ps []) (hl1:ps.length=1) (hG:Same G H0) (hq:SqL X.K G l vs) (hlI:l≠Ii) (hSI:S≠Ii)
 (fpI:∀ H',H' Ii=none->nP X pins H' Ii) (fpS:∀ H',H' S=none->nP X pins H' S) (nfI:Ii ∉ frs X.stack) (nfS:S ∉ frs X.stack)
 (hR:∀ v u H' s',Inv X pins σ H' s'->Same H0 H'->RelV v u->Rep X.K G v dd->Rr (.ok (.ret u)) s') :
  ∀ (cG:List D) (vrest:List V) (p:Nat) (b:D) (vb:V) (kb:Int) (s:Shared) (H:Hp) (ub:Value) (t:Tok) (c:Nat),p<=vs.length->vs.drop p=vrest->Reps X.K G vrest cG->qo (fun d=>g [d]) b kb cG=.ok dd->
   Inv X pins σ H s->Same H0 H->s.heap.get? S=some (seqObj "list" #[ub,.int kb t] c)->s.heap.IsListIter Ii l p->H Ii=none->H S=none->RelV vb ub->Rep X.K G vb b->
   codeAny (model X.prog X.w) X.A (.builtin "min.loop" ⟨[.ref Ii,.ref f,.ref S],[]⟩) Rr s:=by
 intro cG
 have nm:(toString "min"++toString ".loop":String)="min.loop":=by decide
 induction cG with
 | nil=>
  intro vrest p b vb kb s H ub t c hpl hd hrs hm I hs gS hit nI nS rb rpb
  cases hm
  cases hrs
  obtain ⟨its,rvs,pl,hz⟩:=I.list ((hq.mono hG).mono hs)
  have W:=Walks.list (prog:=X.prog) (w:=X.w) (A:=X.A.in1) hh Ii l hlI its.toArray
  obtain rfl:p=its.toArray.size:=by
   have h1:=rvs.length
   have h2:=List.drop_eq_nil_iff.1 hd
   simp;omega
  refine codeAny_builtin PySem.F.entry_min_loop ?_
  rw [Around.under_plainId PySem.F.plain_min_loop _]
  refine wpAny_bind (m:=seqItems? (.ref S)) (wpAny_seqItems gS rfl (wpAny_bind (m:=tryCatch (pyNext (.ref Ii)) _) (wpAny_tryCatch (W.done _ _ _ ⟨hit,pl.isList⟩ fun h6 tk6 hk6=>?_))))
  have I6:Inv X pins σ H { s with heap:=h6,toks:=tk6 }:=Inv.turnedL (s:=s) (h':=h6) (t':=tk6) (ch:=[Ii]) I (fun b ob hb e=>hk6 b ob hb e) (fun b hb=>by rw [List.mem_singleton.1 hb];exact fpI H nI)
  have s7:=Heap.SameBut.update h6 S (Obj.mapSeq fun _=>(#[]:Array Value))
  refine wpAny_bind (m:=updateSeq S fun _=>#[]) (wpAny_updateSeq (hk6 S _ (by simpa using hSI) gS) rfl (wpAny_bind (wpAny_letGo (wpAny_pure ?_))))
  exact hR vb ub H _ (Inv.turnedL (s:={ s with heap:=h6,toks:=tk6 }) (t':=tk6) (ch:=[S]) I6 (fun b ob hb e=>(s7.2 b (by simpa using hb)).trans e) (fun b hb=>by rw [List.mem_singleton.1 hb];exact fpS H nS)) hs rb rpb
 | cons d cG ih=>
  intro vrest p b vb kb s H ub t c hpl hd hrs hm I hs gS hit nI nS rb rpb
  cases hrs with
  | cons rd rrest=>
  rename_i v vrest
  obtain ⟨its,rvs,pl,hz⟩:=I.list ((hq.mono hG).mono hs)
  have W:=Walks.list (prog:=X.prog) (w:=X.w) (A:=X.A.in1) hh Ii l hlI its.toArray
  have hvp:vs[p]?=some v:=by simpa [List.head?_drop] using congrArg List.head? hd
  have hdr:vs.drop (p+1)=vrest:=by simpa [List.tail_drop] using congrArg List.tail hd
  have hpl':p+1<=vs.length:=(List.getElem?_eq_some_iff.1 hvp).1
  obtain ⟨u,hu,ru⟩:=rvs.get hvp
  obtain ⟨kx,eg⟩:∃ kx,g [d]=.ok (.int kx):=by
   unfold qo at hm
   split at hm
   ·rename_i kx e;exact ⟨kx,e⟩
   ·cases hm
  simp only [qo,eg] at hm
  refine codeAny_builtin PySem.F.entry_min_loop ?_
  rw [Around.under_plainId PySem.F.plain_min_loop _]
  refine wpAny_bind (m:=seqItems? (.ref S)) (wpAny_seqItems gS rfl (wpAny_bind (m:=tryCatch (pyNext (.ref Ii)) _) (wpAny_tryCatch (W.item p _ _ _ (by simpa using (List.getElem?_eq_some_iff.1 hu).1) ⟨hit,pl.isList⟩ fun v' h3 tk3 hP hst3 hk3=>?_))))
  obtain rfl:v'=u:=by
   have:its[p]?=some v':=by simpa using hP
   rw [hu] at this;cases this;rfl
  obtain ⟨oI,hoI,hoc,hod⟩:=id hst3.1
  have I3:Inv X pins σ H { s with heap:=h3,toks:=tk3 }:=Inv.turnedL (s:=s) (h':=h3) (t':=tk3) (ch:=[Ii]) I (fun b ob hb e=>hk3 b ob hb e) (fun b hb=>by rw [List.mem_singleton.1 hb];exact fpI H nI)
  have gS3:h3.get? S=some (seqObj "list" #[ub,.int kb t] c):=hk3 _ _ (by simpa using hSI) gS
  refine wpAny_bind (m:=tryCatch (holding [v'] (call (.ref f) [v'])) _) (wpAny_tryCatch (wpAny_holding (wpAny_mono (va (E:=fun _ _=>False) F hr hh hb hl1 I3 ru (hG.trans hs) rd eg) (fun y s4 ⟨H4,tx,ey,I4,sm4,un4⟩=>?_) fun _ _ z=>z.elim)))
  subst ey
  have gS4:=un4.keep _ _ gS3 nS nfS (by simp)
  have gI4:=un4.keep _ _ hoI nI nfI (by simp)
  have nI4:H4 Ii=none:=un4.free _ _ hoI nI (by simp)
  have nS4:H4 S=none:=un4.free _ _ gS3 nS (by simp)
  refine wpAny_bind (m:=tryCatch (holding [v',.int kx tx] (richCompare .Lt (.int kx tx) (.int kb t)>>=_)) _) (wpAny_tryCatch (wpAny_holding (wpAny_bind (Ff (wpAny_bind (wpAny_holding (wpAny_truthy_bool (wpAny_bind (wpAny_letGo (wpAny_pure ?_))))))))))
  by_cases hlt:kx<kb
  ·rw [if_pos hlt] at hm
   rw [decide_eq_true hlt]
   have s1:=Heap.SameBut.update s4.heap S (Obj.mapSeq fun _=>#[v',.int kx tx])
   obtain ⟨c2,hc2⟩:∃ c2,(s4.heap.update S (Obj.mapSeq fun _=>#[v',.int kx tx])).get? S=some (seqObj "list" #[v',.int kx tx] c2):=⟨_,get?_update_seq gS4 fun _=>#[v',.int kx tx]⟩
   simp only [if_true]
   refine wpAny_bind (wpAny_updateSeq gS4 rfl (wpAny_bind (wpAny_letGo ?_)))
   rw [nm]
   exact wpAny_pure ⟨plainId_quiet PySem.F.plain_min_loop _,ih vrest (p+1) d v kx _ H4 v' tx c2 hpl' hdr rrest hm (Inv.turnedL (s:=s4) (t':=s4.toks) (ch:=[S]) I4 (fun b ob hb e=>(s1.2 b (by simpa using hb)).trans e) (fun b hb=>by rw [List.mem_singleton.1 hb];exact fpS H4 nS4)) (hs.trans sm4) hc2 ⟨oI,(s1.2 Ii hSI.symm).trans gI4,hoc,hod⟩ nI4 nS4 ru rd⟩
  ·rw [if_neg hlt] at hm
   rw [decide_eq_false hlt]
   simp only [Bool.false_eq_true,if_false]
   refine wpAny_bind (wpAny_letGo ?_)
   rw [nm]
   exact wpAny_pure ⟨plainId_quiet PySem.F.plain_min_loop _,ih vrest (p+1) b vb kb s4 H4 ub t c hpl' hdr rrest hm I4 (hs.trans sm4) gS4 ⟨oI,gI4,hoc,hod⟩ nI4 nS4 rb rpb⟩
theorem yQ {v0:V} {vr:List V} {d0:D} {kb:Int} {Q:VK} (F:FnF X.prog X.w X.K X.mg X.base k f fd ps g) (hr:Room k X.A.in1) (hh:X.A.handled=none) (hb:Binds X.K fd ps []) (hl1:ps.length=1) (I:Inv X pins σ H s) (hG:Same G H) (hq:SqL X.K G l (v0::vr)) (r0:Rep X.K G v0 d0) (rr:Reps X.K G vr ds)
 (eg:g [d0]=.ok (.int kb)) (em:qo (fun d=>g [d]) d0 kb ds=.ok dd) (hQ:∀ v H',Same H H'->Rep X.K G v dd->Q v H') :
  wpAny (model X.prog X.w) X.A (call (.builtin "min") [.ref l] [(Str.ofString "key",.ref f)]) (EP X pins σ Q) X.xe s:=by
 have nm:(toString "min"++toString ".loop":String)="min.loop":=by decide
 obtain ⟨its,rvs,pl,hz⟩:=I.list (hq.mono hG)
 have hl:=pl.isList
 obtain ⟨ol,hol,_⟩:=id hl
 have ll:l<s.heap.objs.size:=Heap.lt_size hol
 refine kmk_tree PySem.F.kind_min PySem.F.plain_min PySem.F.entry_min (kmk_min_key _ _) ?_
 refine wpAny_bind (m:=Builtin.Builtins.bindParams "min" ["key","default"] 0 ⟨[],[(Str.ofString "key",.ref f)]⟩) (wpAny_of_eq (a:=[some (.ref f),none]) rfl (wpAny_bind (wpAny_pure (wpAny_bind (wpAny_pyIter_list hl (wpAny_bind (wpAny_newList ?_ (Nat.zero_le _))))))))
 rw [nm]
 generalize hI:s.heap.objs.size=Ii at *
 have hS:(s.heap.push { cls:=.type "list_iterator",data:=.fields #[.ref l,.int 0 0] }).objs.size=Ii+1:=by rw [<- hI];exact size_push' ..
 rw [hS]
 have hlI:l≠Ii:=Nat.ne_of_lt ll
 have hSI:Ii+1≠Ii:=Nat.ne_of_gt (Nat.lt_succ_self _)
 refine wpAny_pure ⟨plainId_quiet PySem.F.plain_min_loop _,?_⟩
 generalize hh2:(s.heap.push { cls:=.type "list_iterator",data:=.fields #[.ref l,.int 0 0] }).push (seqObj "list" #[] 0)=h2
 have k2:∀ b ob,s.heap.get? b=some ob->h2.get? b=some ob:=fun b ob e=>by rw [<- hh2];exact Heap.get?_push_of_some _ (Heap.get?_push_of_some _ e)
 have gI:h2.get? Ii=some { cls:=.type "list_iterator",data:=.fields #[.ref l,.int 0 0] }:=by
  rw [<- hh2,<- hI];exact Heap.get?_push_of_some _ (Heap.get?_push_size _ rfl)
 have gS:h2.get? (Ii+1)=some (seqObj "list" #[] 0):=by
  rw [<- hh2,<- hS];exact Heap.get?_push_size _ rfl
 have fpI:∀ H',H' Ii=none->nP X pins H' Ii:=fun H' n=>I.fpOk (by rw [hI];exact Nat.le_refl _) n
 have fpS:∀ H',H' (Ii+1)=none->nP X pins H' (Ii+1):=fun H' n=>I.fpOk (by rw [hI];exact Nat.le_succ _) n
 have nI:H Ii=none:=I.hok.fresh (by rw [hI];exact Nat.le_refl _)
 have nS:H (Ii+1)=none:=I.hok.fresh (by rw [hI];exact Nat.le_succ _)
 have noF:∀ b,s.heap.objs.size<=b->b ∉ frs X.stack:=fun b hb z=>by
  rcases List.mem_cons.1 (I.stkSub b z) with rfl|z
  ·exact absurd I.lt (Nat.not_lt.2 hb)
  ·exact I.nofs hb z
 have nfI:Ii ∉ frs X.stack:=noF _ (by rw [hI];exact Nat.le_refl _)
 have nfS:(Ii+1) ∉ frs X.stack:=noF _ (by rw [hI];exact Nat.le_succ _)
 have W:=Walks.list (prog:=X.prog) (w:=X.w) (A:=X.A.in1) hh Ii l hlI its.toArray
 obtain ⟨u0,hu0,ru⟩:=rvs.get (i:=0) (x:=v0) rfl
 refine codeAny_builtin PySem.F.entry_min_loop ?_
 rw [Around.under_plainId PySem.F.plain_min_loop _]
 refine wpAny_bind (m:=seqItems? (.ref _)) (wpAny_seqItems gS rfl (wpAny_bind (m:=tryCatch (pyNext (.ref Ii)) _) (wpAny_tryCatch (W.item 0 _ _ _ (by simpa using (List.getElem?_eq_some_iff.1 hu0).1) ⟨⟨_,gI,rfl,rfl⟩,hl.at fun o e=>k2 _ _ e⟩ fun v h3 tk3 hP hst3 hk3=>?_))))
 obtain rfl:v=u0:=by
  have:its[0]?=some v:=by simpa using hP
  rw [hu0] at this;cases this;rfl
 obtain ⟨oI,hoI,hoc,hod⟩:=id hst3.1
 have I3:Inv X pins σ H { s with heap:=h3,toks:=tk3 }:=Inv.turnedL (s:={ s with heap:=h2,toks:=s.toks }) (h':=h3) (t':=tk3) (ch:=[Ii]) (I.kept k2) (fun b ob hb e=>hk3 b ob hb e) (fun b hb=>by rw [List.mem_singleton.1 hb];exact fpI H nI)
 have gS3:h3.get? (Ii+1)=some (seqObj "list" #[] 0):=hk3 _ _ (by simp) gS
 refine wpAny_bind (m:=tryCatch (holding [v] (call (.ref f) [v])) _) (wpAny_tryCatch (wpAny_holding (wpAny_mono (va (E:=fun _ _=>False) F hr hh hb hl1 I3 ru hG r0 eg) (fun y s4 ⟨H4,tx,ey,I4,sm4,un4⟩=>?_) fun _ _ z=>z.elim)))
 subst ey
 have gS4:=un4.keep _ _ gS3 nS nfS (by simp)
 have gI4:=un4.keep _ _ hoI nI nfI (by simp)
 have nI4:H4 Ii=none:=un4.free _ _ hoI nI (by simp)
 have nS4:H4 (Ii+1)=none:=un4.free _ _ gS3 nS (by simp)
 have s5:=Heap.SameBut.update s4.heap (Ii+1) (Obj.mapSeq fun _=>#[v,.int kb tx])
 obtain ⟨c5,hc5⟩:∃ c5,(s4.heap.update (Ii+1) (Obj.mapSeq fun _=>#[v,.int kb tx])).get? (Ii+1)=some (seqObj "list" #[v,.int kb tx] c5):=⟨_,get?_update_seq gS4 fun _=>#[v,.int kb tx]⟩
 refine wpAny_bind (m:=updateSeq (Ii+1) fun _=>#[v,.int kb tx]) (wpAny_updateSeq gS4 rfl ?_)
 rw [nm]
 refine wpAny_pure ⟨plainId_quiet PySem.F.plain_min_loop _,?_⟩
 exact yB (H0:=H) (G:=G) (vs:=v0::vr) F hr hh hb hl1 hG hq hlI hSI fpI fpS nfI nfS (fun v u H' s' I' sm' rv' rp'=>⟨v,H',I',rv',hQ v H' sm' rp'⟩) ds vr 1 d0 v0 kb _ H4 v tx c5 (by simp) rfl rr em (Inv.turnedL (s:=s4) (t':=s4.toks) (ch:=[Ii+1]) I4 (fun b ob hb e=>(s5.2 b (by simpa using hb)).trans e) (fun b hb=>by rw [List.mem_singleton.1 hb];exact fpS H4 nS4)) sm4 hc5 ⟨oI,(s5.2 Ii (Ne.symm hSI)).trans gI4,hoc,hod⟩ nI4 nS4 ru r0
end
theorem sW {key:D->R D}:∀ {xs:List D} {b:D} {kb:Int},(∃ d,qo key b kb xs=.ok d)\/qo key b kb xs=.no
 | [],b,kb=>.inl ⟨_,rfl⟩
 | x::xs,b,kb=>by
  unfold qo
  split
  ·split
   ·exact sW
   ·exact sW
  ·exact .inr rfl
theorem xL {key:D->R D} {x:D} {xs:List D}:(∃ kb d,key x=.ok (.int kb)/\qo key x kb xs=.ok d/\oX key (x::xs)=.ok d)\/oX key (x::xs)=.no:=by
 show _\/(match key x with
  | .ok (.int kx)=>qo key x kx xs
  | _=>.no)=.no
 have e0:oX key (x::xs)=(match key x with
  | .ok (.int kx)=>qo key x kx xs
  | _=>.no):=rfl
 rw [e0]
 cases e:key x with
 | ok d=>
  cases d with
  | int kb=>
   rcases sW (key:=key) (xs:=xs) (b:=x) (kb:=kb) with ⟨d,h⟩|h
   ·exact .inl ⟨kb,d,rfl,h,h⟩
   ·exact .inr h
  | _=>exact .inr rfl
 | _=>exact .inr rfl
noncomputable def sL (ga:Ev->R D) (g:List D->R D):Ev->R D:=fun ρ=>ga ρ>>=fun d=>match d with
 | .lst _ xs=>oX (fun d=>g [d]) xs
 | _=>.no
noncomputable def lc (K:PySem.W.Frag) (c:Addr) (d:D):Prop:=∀ G,Rep K G (.ref c) d
theorem zY {K:PySem.W.Frag} {c:Addr} {o:Obj} {its:Array Value} {n:Nat} (h1:K.lookup c=some o) (h2:o.cls=.type "tuple") (h3:o.data=.seq its n) (h4:its.size<=sizeLine) (h5:Vals vs its.toList) (h6:∀ G,Reps K G vs ds):lc K c (.tup ds):=fun G=>.tup (.inr ⟨o,its,n,h1,h2,h3,h4,h5⟩) (h6 G)
theorem Da (l:Addr) (items:Array Value) (n:Nat) (b:Addr) (items2:Array Value) (hs1:items.size+items2.size<=sizeLine) :
  Meets (Builtin.«list.extend» { pos:=[.ref l,.ref b] }) fun _ R s=>s.heap.get? l=some { cls:=.type "list",data:=.seq items n }/\IsTup s.heap b items2/\R (.ok (.ret .none)) { s with heap:=s.heap.update l (Obj.mapSeq fun x=>x++items2) }:=by
 intro prog w A R s ⟨hl,⟨o,e2,hc,n2,hd⟩,h⟩
 show wpAny _ _ (selfAndOne "list.extend" { pos:=[.ref l,.ref b] }>>=_) _ _ s
 refine wpAny_bind (wpAny_of_eq (a:=(.ref l,.ref b)) rfl ?_)
 show wpAny _ _ (Builtin.List.listExtendWith (.ref l) (.ref b) .none) _ _ s
 unfold Builtin.List.listExtendWith
 refine wpAny_bind (wpAny_typeOf (T:="tuple") ⟨o,e2,hc⟩ ?_)
 rw [if_pos (by rw [Bool.or_eq_true];exact .inr (by decide))]
 unfold Builtin.List.listItems
 refine wpAny_bind (wpAny_bind (wpAny_seqItems e2 hd (wpAny_pure ?_)))
 refine wpAny_bind (wpAny_bind (wpAny_seqItems hl rfl (wpAny_pure ?_)))
 dsimp only
 rw [vF hs1,Bool.and_false,if_neg (by decide)]
 show wpAny _ _ (updateSeq l (fun x=>x++items2)>>=_) _ _ s
 refine wpAny_bind (wpAny_updateSeq (hz:=Nat.le_trans (Nat.le_add_right _ _) hs1) (_hz':=?_) hl rfl ?_)
 ·exact wpAny_pure (a:=Fin.done (.ret .none)) h
 ·rw [Array.size_append];omega
noncomputable def Jh (K:PySem.W.Frag):V->List V->Hp->VK->Prop:=fun x vs H Q=>∃ l b xs zs,x=.ref l/\vs=[.ref b]/\H l=some (.lst xs)/\SqT K H b zs/\xs.length+zs.length<=sizeLine/\Q .non (upd H l (.lst (xs++zs)))
theorem Ca:MtM X "list.extend" (Jh X.K):=by
 intro pins s σ H x vs v us Q I rx rv h
 obtain ⟨l,b,xs,zs,rfl,rfl,hH,hB,hz,q⟩:=h
 cases rx
 obtain ⟨u,rfl,ru⟩:=rv.one
 cases ru
 obtain ⟨z,its,n,r,hl,e⟩:=I.lstM hH
 obtain ⟨its2,r2,it2,z2⟩:=I.tuple hB
 have hl2:=r2.length
 have hsz:its.toArray.size+its2.toArray.size<=sizeLine:=by rw [List.size_toArray,List.size_toArray];omega
 refine call_meets F.slot_list_extend ⟨_,e,rfl⟩ F.entry_list_extend (F.args_list_extend_2 _ _) (Da l its.toArray n b its2.toArray hsz) ⟨e,it2,?_⟩
 refine ⟨.non,_,I.lset (its':=its++its2) hH e (by simp) (r.append r2) ?_,rfl,q⟩
 rw [List.length_append]
 omega
noncomputable def asT:D->R (List D)
 | .tup xs=>.ok xs
 | _=>.no
noncomputable def D1 (i:Nat) (ga:Ev->R D):Ev->O:=fun ρ=>(ownAt ρ i).out ρ fun ds=>(ga ρ).out ρ fun d=>(asT d).out ρ fun es=>if ds.length+es.length<=sizeLine then .nx (ρ.set i (some (.own (ds++es)))) else .no
noncomputable def qf:List (D->Ev->R Ev)->List D->Ev->R Ev
 | [],[],ρ=>.ok ρ
 | a::as,d::ds,ρ=>match a d ρ with
  | .ok ρ'=>qf as ds ρ'
  | _=>.no
 | _,_,_=>.no
noncomputable def sh (as:List (D->Ev->R Ev)) (d:D) (ρ:Ev):R Ev:=match d with
 | .tup ds=>qf as ds ρ
 | _=>.no
theorem rE:∀ (as:List (D->Ev->R Ev)) (ds:List D) (ρ ρ':Ev),qf as ds ρ=.ok ρ'->ds.length=as.length
 | [],[],_,_,_=>rfl
 | [],_::_,_,_,e=>by cases e
 | _::_,[],_,_,e=>by cases e
 | a::as,d::ds,ρ,ρ',e=>by
  unfold qf at e
  split at e
  ·simp [rE as ds _ ρ' e]
  ·cases e
theorem nX:∀ (as:List (D->Ev->R Ev)) (ds:List D) (ρ:Ev) (C:Addr),qf as ds ρ ≠ .ex C
 | [],[],_,_=>by intro z;cases z
 | [],_::_,_,_=>by intro z;cases z
 | _::_,[],_,_=>by intro z;cases z
 | a::as,d::ds,ρ,C=>by
  unfold qf
  split
  ·exact nX as ds _ C
  ·intro z;cases z
theorem wQ (as:List (D->Ev->R Ev)):∀ (d:D) (ρ:Ev) (C:Addr),sh as d ρ ≠ .ex C:=fun d ρ C=>by
 cases d with
 | tup ds=>exact nX as ds ρ C
 | _=>intro z;cases z
section
variable {X:Cx} {e t:Expr} {es:List Expr} {ga:Ev->R D} {pos:Pos} {asg:D->Ev->R Ev} {as:List (D->Ev->R Ev)}
noncomputable def GG (X:Cx) (es:List Expr) (as:List (D->Ev->R Ev)):Prop:=PGs X es (fun vs σ H Q=>∃ G₀ H₀ G ρ ds ρ',StR X.K G₀ H₀ G H σ ρ/\Reps X.K G vs ds/\qf as ds ρ=.ok ρ'/\∀ σ',StR X.K G₀ H₀ G H σ' ρ'->Q σ' H)
theorem uy:GG X [] []:=by
 intro pins s σ H vs us Q I r h
 obtain ⟨G₀,H₀,G,ρ,ds,ρ',sr,rd,e,q⟩:=h
 refine zb pins s σ H vs us Q I r ?_
 cases rd with
 | nil=>cases e;exact ⟨rfl,q σ sr⟩
 | cons _ _=>cases e
theorem gQ (h1:PGF X t asg) (h2:GG X es as) (hs:(assignEach (t::es) X.env).map (·.2)=assign t X.env::(assignEach es X.env).map (·.2):=by rfl):GG X (t::es) (asg::as):=by
 intro pins s σ H vs us Q I r h
 obtain ⟨G₀,H₀,G,ρ,ds,ρ',sr,rd,e,q⟩:=h
 refine uD h1 h2 hs pins s σ H vs us Q I r ?_
 cases rd with
 | nil=>cases e
 | cons r1 t1=>
  unfold qf at e
  split at e
  ·rename_i ρ1 e1
   exact ⟨_,_,rfl,G₀,H₀,G,ρ,_,ρ1,sr,r1,e1,fun σ' sr'=>⟨G₀,H₀,G,ρ1,_,ρ',sr',t1,e,q⟩⟩
  ·cases e
theorem ut (hc:X.calm=true) (h:GG X es as) (hn:(assignEach es X.env).length=as.length:=by rfl) (hst:(assignEach es X.env).findIdx? (·.1)=none:=by rfl):PGF X (.Tuple es k pos) (sh as):=by
 intro pins s σ H v u Q I r q
 obtain ⟨G₀,H₀,G,ρ,d,ρ',sr,rd,e,q⟩:=q
 refine Bl hc h hn hst pins s σ H v u Q I r ?_
 cases rd with
 | tup hh t=>
  rename_i ds
  exact ⟨_,_,rfl,hh.mono sr.e.sub,by rw [t.length];exact rE as ds ρ ρ' e,G₀,H₀,G,ρ,ds,ρ',sr,t,e,q⟩
 | _=>cases e
end
@[irreducible] noncomputable def BP {α:Type} (X:Cx) (e:List Stmt) (g:α->Ev->O):Prop:=KD X e g
@[irreducible] noncomputable def PFX (X:Cx) (e:Expr) (g:Ev->O):Prop:=QFX X e g
@[irreducible] noncomputable def PF (X:Cx) (e:Expr) (g:Ev->R D):Prop:=QF X e g
@[irreducible] noncomputable def PFA (X:Cx) (e:List Expr) (g:Ev->R (List D)):Prop:=QFA X e g
@[irreducible] noncomputable def PB (X:Cx) (e:Expr) (g:Ev->R Bool):Prop:=QB X e g
@[irreducible] noncomputable def PBW (X:Cx) (e:Expr) (g:Ev->R Bool):Prop:=QBW X e g
@[irreducible] noncomputable def PSF (X:Cx) (e:Stmt) (g:Ev->O):Prop:=QSF X e g
@[irreducible] noncomputable def wT (X:Cx) (e:List Stmt) (g:Ev->O):Prop:=zE X e g
@[irreducible] noncomputable def PFL (X:Cx) (e:Expr) (g:Ev->R (List D)):Prop:=QFL X e g
@[irreducible] noncomputable def PIF (X:Cx) (tg e:Expr) (g:Ev->R (List D)):Prop:=QIF X tg e g
@[irreducible] noncomputable def PFO (X:Cx) (e:Option Expr) (g:Ev->R (Option Int)):Prop:=QFO X e g
local macro_rules | `(tactic| walk_at "u")=>`(tactic| ((try unfold PSsI at *);(try unfold BP at *);(try unfold PFX at *);(try unfold PBX at *);(try unfold PBXW at *);(try unfold PF at *);(try unfold PFA at *);(try unfold PB at *);(try unfold PBW at *);(try unfold PSF at *);(try unfold wT at *);(try unfold PFL at *);(try unfold PIF at *);(try unfold PFO at *)))
section
variable {X:Cx} {e a b c:Expr} {ga gb gc:Ev->R D} {pos:Pos}
theorem ak {i:Int}:PF X (.Constant (.int i) j pos) (fun _=>.ok (.int i)):=by
 with_unfolding_all exact fk Gu fun _ _=>.int i
theorem kT {k:Bool}:PF X (.Constant (.bool k) j pos) (fun _=>.ok (.bl k)):=by
 with_unfolding_all exact fk IC fun _ _=>.bl k
theorem uO:PF X (.Constant .none j pos) (fun _=>.ok .non):=by
 with_unfolding_all exact fk EO fun _ _=>.non
theorem ba {l:List Nat} (hl:x.cps.toList=l:=by rfl) (hz:l.length<=1000:=by decide):PF X (.Constant (.str x) j pos) (fun _=>.ok (.str l)):=by
 with_unfolding_all exact fk F5 fun _ _=>.strL hl (Nat.le_trans hz (by decide))
theorem eE {i:Int} {t:Tok} (hg:Gl X x) (hm:X.mg x=some (.int i t)) (hd:(x==("__debug__":Str))=false:=by decide):PF X (.Name x pos) (fun _=>.ok (.int i)):=by
 with_unfolding_all exact fk (tM (v:=.int i) hg hm ⟨t,rfl⟩ hd) fun _ _=>.int i
end
section
variable {X:Cx}
theorem bb {a b:Expr} {ga:Ev->R D} (ha:PF X a ga) (hb:PF X b gb):PF X (.BinOp a .Add b pos) (g2 ci ga gb):=by
 with_unfolding_all exact iZ C2 (En _) ha hb
theorem nD {a b:Expr} {ga:Ev->R D} (ha:PF X a ga) (hb:PF X b gb):PF X (.BinOp a .Sub b pos) (g2 yv ga gb):=by
 walk_at "u"
 exact iZ Fg (by
  intro G H x y dx dy d Q s rx ry e q
  unfold yv at e
  split at e
  ·cases e
   exact ⟨_,_,rx.int_inv,ry.int_inv,q _ G H (.refl s) (.int _)⟩
  ·cases e) ha hb
theorem Dt {a b:Expr} {ga:Ev->R D} (ha:PF X a ga) (hb:PF X b gb):PF X (.BinOp a .FloorDiv b pos) (g2 Ao ga gb):=by
 walk_at "u"
 exact iZ D0 (by
  intro G H x y dx dy d Q s rx ry e q
  unfold Ao at e
  split at e
  ·split at e
   ·rename_i hc
    cases e
    exact ⟨_,_,rx.int_inv,ry.int_inv,hc,q _ G H (.refl s) (.int _)⟩
   ·cases e
  ·cases e) ha hb
theorem uB {a b:Expr} {ga:Ev->R D} (ha:PF X a ga) (hb:PF X b gb):PF X (.BinOp a .Mod b pos) (g2 xx ga gb):=by
 walk_at "u"
 exact iZ Gr (by
  intro G H x y dx dy d Q s rx ry e q
  unfold xx at e
  split at e
  ·split at e
   ·rename_i hc
    cases e
    exact ⟨_,_,rx.int_inv,ry.int_inv,hc,q _ G H (.refl s) (.int _)⟩
   ·cases e
  ·cases e) ha hb
end
section
variable {X:Cx} {a b c e:Expr} {ga gb gc:Ev->R D} {pos:Pos}
theorem Fs (ha:PF X a ga) (hb:PF X b gb):PF X (.Compare a [.LtE] [b] pos) (g2 leD ga gb):=by
 with_unfolding_all exact uJ nV (wK _) ha hb (jg _)
theorem sZ (ha:PF X a ga) (hb:PF X b gb) (hc:PF X c gc) (hm:lastMarks [.LtE,.LtE] [b,c]=false:=by with_unfolding_all rfl):PF X (.Compare a [.LtE,.LtE] [b,c] pos) (g3 leD leD ga gb gc):=by
 with_unfolding_all exact wI nV nV (wK _) (wK _) ha hb hc hm
end
section
variable {X:Cx} {a b:Expr} {ga gb:Ev->R D} {pos:Pos}
theorem Az (hu:X.A.units+64<cLine) (ha:PF X a ga) (hb:PF X b gb):PF X (.Compare a [.Eq] [b] pos) (g2 eqF ga gb):=by
 walk_at "u"
 exact uJ (Bj hu) (by
  intro G H x y dx dy d Q s rx ry e q
  unfold eqF at e
  cases e1:eqD 40 dx dy with
  | none=>rw [e1] at e;cases e
  | some k=>rw [e1] at e;cases e;exact ⟨G,dx,dy,k,s,rx,ry,e1,q _ G H (.refl s) (.bl k)⟩) ha hb (jg _)
end
section
variable {X:Cx} {a b c e:Expr} {es cG:List Expr} {ga gb gc:Ev->R D} {gt gu:Ev->R Bool} {gl:Ev->R (List D)} {pos:Pos}
theorem jq {op:BoolOp} (h:PF X a ga):PF X (.BoolOp op [a] pos) ga:=by
 with_unfolding_all exact Fc h
theorem iu (ha:PF X a ga) (hb:PF X (.BoolOp .And (b::cG) pos) gb):PF X (.BoolOp .And (a::b::cG) pos) (pi ga gb):=by
 walk_at "u"
 intro pins s σ H Q I h
 refine FR ha hb pins s σ H Q I ?_
 obtain ⟨G,ρ,st,h⟩:=h
 refine tG.intro st h fun x v G1 H1 u1 st1 r1 h1=>?_
 obtain ⟨c,ec,ed,h2⟩:=asB.ok r1 h1
 subst ec ed
 refine ⟨c,rfl,?_⟩
 cases c with
 | true=>rw [if_pos rfl] at h2 ⊢;exact tG.last st1 h2
 | false=>rw [if_neg Bool.false_ne_true] at h2 ⊢;exact h2 _ G1 H1 (.refl st1.sub) (.bl false)
theorem Ga (ha:PF X a ga) (hb:PF X (.BoolOp .Or (b::cG) pos) gb):PF X (.BoolOp .Or (a::b::cG) pos) (gOr ga gb):=by
 walk_at "u"
 intro pins s σ H Q I h
 refine Ih ha hb pins s σ H Q I ?_
 obtain ⟨G,ρ,st,h⟩:=h
 refine tG.intro st h fun x v G1 H1 u1 st1 r1 h1=>?_
 obtain ⟨c,ec,ed,h2⟩:=asB.ok r1 h1
 subst ec ed
 refine ⟨c,rfl,?_⟩
 cases c with
 | true=>rw [if_pos rfl] at h2 ⊢;exact h2 _ G1 H1 (.refl st1.sub) (.bl true)
 | false=>rw [if_neg Bool.false_ne_true] at h2 ⊢;exact tG.last st1 h2
theorem GH (ha:PF X a ga):PF X (.UnaryOp .Not a pos) (HM ga):=by
 walk_at "u"
 intro pins s σ H Q I h
 refine Fp ha pins s σ H Q I ?_
 obtain ⟨G,ρ,st,h⟩:=h
 refine tG.intro st h fun x v G1 H1 u1 st1 r1 h1=>?_
 obtain ⟨c,ec,ed,h2⟩:=asB.ok r1 h1
 subst ec ed
 exact ⟨c,rfl,h2 _ G1 H1 (.refl st1.sub) (.bl _)⟩
theorem Jg (ha:PF X a ga) (hb:PF X b gb):PB X (.Compare a [.GtE] [b] pos) (fun ρ=>g2 geD ga gb ρ>>=asB):=by
 with_unfolding_all exact fD Hu (GZ _) ha hb (jg _)
theorem fG (ha:PB X a gt):PBW X (.BoolOp .Or [a] pos) gt:=by
 with_unfolding_all exact Ex ha
theorem jf (ha:PB X a gt) (hb:PBW X (.BoolOp .Or (b::cG) pos) gu):PBW X (.BoolOp .Or (a::b::cG) pos) (sN gt gu):=by
 walk_at "u"
 intro whole pins s σ H Q I h
 refine Hb ha hb whole pins s σ H Q I ?_
 obtain ⟨G,ρ,st,h⟩:=h
 refine tG.intro st h fun x v G1 H1 u1 st1 r1 h1=>?_
 subst r1
 cases v with
 | true=>rw [if_pos rfl] at h1 ⊢;exact h1 _ G1 H1 (.refl st1.sub) rfl
 | false=>rw [if_neg Bool.false_ne_true] at h1 ⊢;exact tG.last st1 h1
theorem xD (hc:PB X c gt) (ha:PF X a ga) (hb:PF X b gb):PF X (.IfExp c a b pos) (gIf gt ga gb):=by
 walk_at "u"
 intro pins s σ H Q I h
 refine AW hc ha hb pins s σ H Q I ?_
 obtain ⟨G,ρ,st,h⟩:=h
 refine tG.intro st h fun x v G1 H1 u1 st1 r1 h1=>?_
 subst r1
 cases v with
 | true=>rw [if_pos rfl] at h1 ⊢;exact tG.last st1 h1
 | false=>rw [if_neg Bool.false_ne_true] at h1 ⊢;exact tG.last st1 h1
theorem ad:PFA X [] (fun _=>.ok []):=by
 with_unfolding_all exact rK
theorem aM (ha:PF X a ga) (hb:PF X b gb) (hs:sF b:=by exact fun _ _=>rfl):PF X (.Subscript a b pos) (g2 ixD ga gb):=by
 walk_at "u"
 exact fun pins s σ H Q I h=>Fm FV ha hb hs pins s σ H Q I (AJ (G0 _) h)
end
section
variable {X:Cx} {a b c e:Expr} {es cG:List Expr} {lo hi:Option Expr} {ga gb gc:Ev->R D} {go gp:Ev->R (Option Int)} {gl:Ev->R (List D)} {pos p2:Pos}
theorem cI:PFO X none (fun _=>.ok none):=by
 walk_at "u"
 intro pins s σ H Q I h
 obtain ⟨G,ρ,st,h⟩:=h
 exact D3 pins s σ H Q I (h none G H (.refl st.sub) rfl)
theorem cr (ha:PF X a ga) (hl:PFO X lo go) (hu:PFO X hi gp):PF X (.Subscript a (.Slice lo hi none p2) pos) (gSl ga go gp):=by
 walk_at "u"
 intro pins s σ H Q I h
 refine AX Gh ha hl hu pins s σ H Q I ?_
 obtain ⟨G,ρ,st,h⟩:=h
 refine tG.intro st h fun x v G1 H1 u1 st1 r1 h1=>?_
 refine tG.intro st1 h1 fun l l' G2 H2 u2 st2 r2 h2=>?_
 subst r2
 refine tG.intro st2 h2 fun u u' G3 H3 u3 st3 r3 h3=>?_
 subst r3
 obtain ⟨d,e,q⟩:=ofO.ok h3
 have r:=(r1.mono u2.gg).mono u3.gg
 unfold CA at e
 split at e
 ·cases e
  obtain ⟨y,rfl,ey,hy⟩:=r.str_inv
  subst ey
  exact .inl ⟨y,rfl,hy,q _ G3 H3 (.refl st3.sub) (.strL (ye y _ _) (Nat.le_trans (Cv _ _ _) (by rw [Str.len_list];exact hy)))⟩
 ·rename_i xs0
  cases e
  obtain ⟨a,vs,rfl,h,t⟩:=r.tup_inv
  by_cases hw:HT.sIx vs.length 0 l'=0/\HT.sIx vs.length vs.length u'=vs.length
  ·refine .inr (.inl ⟨a,vs,rfl,h.mono st3.sub,hw,q _ G3 H3 (.refl st3.sub) ?_⟩)
   have e1:jz xs0 l' u'=xs0:=by
    unfold jz
    rw [<- t.length,hw.1,hw.2,List.drop_zero,Nat.sub_zero,t.length,List.take_length]
   rw [e1]
   exact .tup h t
  ·exact .inr (.inr (.inl ⟨a,vs,rfl,h.mono st3.sub,hw,fun p hp=>q _ _ _ (.new st3.sub hp) (.tup (.of aS) ((t.cut _ _).mono (.into (st3.sub.free hp))))⟩))
 ·cases e
  obtain ⟨a,vs,rfl,h,t⟩:=r.seq_inv
  exact .inr (.inr (.inr ⟨a,vs,rfl,h.mono st3.sub,fun p hp=>q _ _ _ (.new st3.sub hp) (.lst aS ((t.cut _ _).mono (.into (st3.sub.free hp))))⟩))
 ·cases e
theorem xo {T:String} {r:List V->Hp->VK->Prop} {f:List D->Option D} (hc:kP X (.type T) r) (hf:D5 X.K r f) (hg:Gl X x) (hm:X.mg x=none) (hv:bootBuiltins x=some (.type T)) (ha:PFA X (e::es) gl)
 (hn:x ≠ "__name__":=by decide) (hdb:(x==("__debug__":Str))=false:=by decide)
 (he:starEach (e::es) X.env=(false,eval e X.env)::starEach es X.env:=by rfl) (hpl:(backTo pos (starEach es X.env)).any (·.1)=false:=by rfl):PF X (.Call (.Name x p) (e::es) [] pos) (fun ρ=>gl ρ>>=fun ds=>ofO (f ds)):=by
 with_unfolding_all exact ma hc hf hg hm hv ha hn hdb he hpl
end
section
theorem CY {c:Expr} {gt:Ev->R Bool} (h:PB X c gt):PTs X [c] gt:=by
 walk_at "u"
 exact fun pins s σ H Q I q=>wpAny_tests_one (h pins s σ H Q I q)
end
section
variable {X:Cx} {elt iter:Expr} {ifs:List Expr} {x:Str} {px pos:Pos} {scope:Scope} {N':List Str} {ix:List Nat} {gi:Ev->R (List D)} {gt:Ev->R Bool} {ge:Ev->R D}
theorem hU (ok:CompOk X scope x N' ix) (hcalm:X.calm=true) (hi:PIF X (.Name x px) iter gi) (he:∀ C s₂ H₂ fp,PF (cE X N' scope C s₂ H₂ fp) elt ge) (ht:∀ C s₂ H₂ fp,PTs (cE X N' scope C s₂ H₂ fp) ifs gt)
 (hs:∀ x,foldedSetIterable iter X.env x=pure x:=by intro _;rfl):PFL X (.ListComp elt [⟨.Name x px,iter,ifs,0⟩] scope pos) (jl gi ix gt ge):=by
 walk_at "u"
 intro pins s σ H Q I h
 obtain ⟨G,ρ,st,h⟩:=h
 rw [eval_ListComp]
 refine wpAny_comprehension_free (use:=none) rfl hs (oS fun y hy hy2=>I.ok.has y.1 (.inl (ok.fr y hy hy2))) ok.kind ok.names ?_
 have t:tG X (fun G J items=>ItOk X.K G J items) gi σ H (fun J H1=>∃ G1 items,Up G H G1 H1/\StE X.K G1 H1 σ ρ/\ItOk X.K G1 J items/\(fZ gt ge items (jI ix ρ)>>=fun ds=>if ds.length<=sizeLine then R.ok ds else .no).post (zp X.K G H Q) (Exx X σ G H)):=by
  refine ⟨G,ρ,st,?_⟩
  unfold jl at h
  cases e:gi ρ with
  | ok items=>rw [e] at h;exact fun J G1 H1 u r=>⟨G1,items,u,st.up u,r,h⟩
  | ex C=>rw [e] at h;exact h
  | no=>rw [e] at h;exact h
 refine thn (hi pins s σ H _ I t) fun v s1 h1=>thn h1 fun itv s2 h2=>?_
 obtain ⟨it,fp,tn,J,H2,e,I2,T,st2,f2,G2,items,u2,sE2,iok,h2⟩:=h2
 subst e
 have h2':(fZ gt ge items (jI ix ρ)>>=fun ds=>if ds.length<=sizeLine then R.ok ds else .no).post (zp X.K G2 H2 Q) (Exx X σ G2 H2):=
  h2.mono (fun ds q l vs G' H' u hl r=>q l vs G' H' (u2.trans u) hl r) fun C q=>q.up u2
 refine qk (iter:=iter) (pos:=pos) (RR:=fun acc C=>compPost (model X.prog X.w) X.A X.xe none (EP X pins σ Q) acc C) ok hcalm he ht I2 T st2 f2 sE2 iok h2' ?_
 intro Dd C s' m vs G' H' up hd hCD _ q hm hos hb hC hCl un hok
 refine ⟨m,hm,fun h' hs'=>?_⟩
 have I3:=I2.call' (H':=upd H' Dd (.lst vs)) (s':={ s' with heap:=h' }) (ch:=fp) hos (un.sameBut (fun b o hbc e=>hs'.extBut b o hbc e) hCl) (hok.sameBut (fun b o hbc e=>hs'.extBut b o hbc e) (by rw [aK hCD];exact hC)) hb fun b hb'=>by
  obtain ⟨f0,f1,f2',f3,f4,f5⟩:=f2 b hb'
  exact ⟨f3,f1,f4,f5⟩
 exact ⟨.ref Dd,_,I3,rfl,q⟩
end
section
theorem Fun.okF {w:World} {K:PySem.W.Frag} {mg:Str->Option Value} {base:Heap} {N:List Str} (F:Fun K x qual st f fd) (S:FnScope N ps (am st)) {g:Ev->O}
 (hbody:∀ (cdv:Value) (A:Around) (outer:List Env) (s:Shared) (H:Hp) (E:XK),Room k (A.deeper (envOfC qual (am st) s.heap.objs.size f cdv))->wT (kQ (CXo P w) P w K mg base N qual (am st) f cdv A outer s H E) (ck st) g):FnF P w K mg base (k+1) f fd ps (fun ds=>au (g (ar N.length ds))):=by
 walk_at "u"
 obtain ⟨oc,od,kV,doc,pm,an,cdv,ct,osl,rfl,lk,hcd⟩:=F.ex
 refine C9 lk hcd S (fun vs H Q E h=>h.1) fun A outer s H vs Q E hr hsp=>?_
 obtain ⟨hl,G,ds,sub,r,h⟩:=hsp
 refine ⟨_,hbody cdv A outer s H E hr G H,G,ar N.length ds,uH sub r,?_⟩
 dsimp only at h
 cases q:g (ar N.length ds) with
 | nx ρ=>rw [q] at h;exact fun σ G' H' sr=>h .non G' H' sr.up .non
 | rt d=>rw [q] at h;exact fun v G' H' u rv=>h v G' H' u rv
 | re d ρ=>rw [q] at h;exact fun v σ G' H' sr rv=>h v G' H' sr.up rv
 | bk ρ=>rw [q] at h;exact h.elim
 | ct ρ=>rw [q] at h;exact h.elim
 | ex C ρ=>rw [q] at h;exact fun e s' fl=>oz fl h
 | no=>rw [q] at h;exact h.elim
end
section
variable {X:Cx}
theorem jc {a b:Expr} {ga:Ev->R D} (ha:PF X a ga) (hb:PF X b gb):PF X (.BinOp a .Mult b pos) (g2 jB ga gb):=by
 with_unfolding_all exact iZ Dv (Ft _) ha hb
end
section
variable {X:Cx} {e o:Expr} {es:List Expr} {ga gb:Ev->R D} {gl:Ev->R (List D)} {pos:Pos}
theorem DJ {T id:String} {name:Str} {ap cp:Pos} {r:V->List V->Hp->VK->Prop} {f:D->List D->Option D} (pa:PlainAttrs T) (slot:PySem.Slot T name id) (hty:typeOf (.builtin id)=pure (.type "method_descriptor")) (hm:MtR X id r) (hf:Js X.K T r f) (ho:PF X o ga) (ha:PFA X (e::es) gl)
 (hbase:attributeBase o name X.env (eval o X.env)=eval o X.env:=by rfl)
 (hfew:((backTo cp (starEach (e::es) X.env)).all (fun x=>!x.1) && (backToKw cp (keywordEach [] X.env)).all (fun x=>x.1.isSome)
 && decide ((e::es).length+([]:List Keyword).length+(if ([]:List Keyword).isEmpty then 0 else 1)<30))=true:=by rfl)
 (hline:(ap.endLine==cp.line)=true:=by rfl) (hs:starEach (e::es) X.env=(false,eval e X.env)::starEach es X.env:=by rfl) (hplain:(backTo cp (starEach es X.env)).any (·.1)=false:=by rfl):PF X (.Call (.Attribute o name ap) (e::es) [] cp) (fun ρ=>ga ρ>>=fun x=>if qF T x=true then gl ρ>>=fun ds=>ofO (f x ds) else .no):=by
 walk_at "u"
 intro pins s σ H Q I h
 refine Ch pa slot hty hm ho ha hbase hfew hline hs hplain pins s σ H Q I ?_
 obtain ⟨G,ρ,st,h⟩:=h
 refine tG.intro st h fun x v G1 H1 u1 st1 r1 h1=>?_
 by_cases hk:qF T x=true
 ·rw [if_pos hk] at h1
  have ty:tyV X.K T v H1:=by
   cases r1 with
   | str y hy=>exact show T="str" by simpa [qF] using hk
   | lst hh t=>exact .inl ⟨by simpa [qF] using hk,_,.of (st1.sub _ _ hh)⟩
   | fls hh t=>exact .inl ⟨by simpa [qF] using hk,_,hh.mono st1.sub⟩
   | _=>cases hk
  refine ⟨ty,tG.intro st1 h1 fun ds vs G2 H2 u2 st2 r2 h2=>?_⟩
  obtain ⟨d,e',q⟩:=ofO.ok h2
  exact hf G2 H2 v vs x ds d Q st2.sub (r1.mono u2.gg) r2 e' q
 ·rw [if_neg hk] at h1;exact h1.elim
end
section
variable {X:Cx} {st:Stmt} {cG body sa sb:List Stmt} {e a b c o tg:Expr} {es:List Expr} {g gs1 gs2:Ev->O} {ga gb gc:Ev->R D} {gt:Ev->R Bool} {gl:Ev->R (List D)} {pos p p2:Pos} {x:Str}
theorem ag (h1:PSF X st gs1) (h2:wT X cG gs2):wT X (st::cG) (ay gs1 gs2):=by
 with_unfolding_all exact qr h1 h2
theorem ax:wT X [] oNx:=by
 with_unfolding_all exact sU
theorem br (he:PF X e ga):PSF X (.Return (some e) pos) (cj ga):=by
 with_unfolding_all exact wJ he
theorem gZ (hc:PB X c gt) (ha:wT X sa gs1) (hb:wT X sb gs2):PSF X (.If c sa sb pos) (oIf gt gs1 gs2):=by
 with_unfolding_all exact yW hc ha hb
theorem Cj (i:Nat) (hN:X.N.Nodup) (he:PFL X e gl) (hi:X.N[i]?=some x:=by rfl) (hx:Loc X.env.scope x:=by first|exact Or.inl rfl|exact Or.inr rfl)
 (hs:swapsWithSole [.Name x p] e pos.line X.env=pure false:=by rfl) (hw:swappedStores [.Name x p] e X.env=pure none:=by rfl) (hf:X.fn x=true\/X.env.scope.names.lookup x=some .local:=by first|exact .inl rfl|exact .inr rfl):PSF X (.Assign [.Name x p] e pos) (Gs i gl):=by
 with_unfolding_all exact wD i hN he hi hx hs hw hf
theorem lF (he:PF X e ga) (hs:swapsWith e none pos.line X.env=pure false:=by rfl):PSF X (.Expr e pos) (pP ga):=by
 with_unfolding_all exact tm he hs
theorem qK (hp:PassesOwn (model X.prog X.w) X.A X.env X.xe) (hcalm:X.calm=true) (hi:PIF X tg iter gi) (hg:PGF X tg asg) (hb:wT X body g)
 (hs:∀ x,foldedSetIterable iter X.env x=pure x:=by intro _;rfl) (hn:∀ d ρ C,asg d ρ ≠ .ex C:=by intro _ _ _ z;cases z):PSF X (.For tg iter body [] pos) (zr asg gi g):=by
 with_unfolding_all exact wf hp hcalm hi hg hb hs hn
theorem dE (hg:Gl X "len") (hm:X.mg "len"=none) (ha:PFA X [e] gl) (he:starEach [e] X.env=[(false,eval e X.env)]:=by rfl):PF X (.Call (.Name "len" p) [e] [] pos) (gOf eX gl):=by
 with_unfolding_all exact zP hg hm ha he
theorem Df (hc:X.calm=true) (hg:Gl X "all") (hm:X.mg "all"=none) (ha:PFA X [e] gl) (he:starEach [e] X.env=[(false,eval e X.env)]:=by rfl):PF X (.Call (.Name "all" p) [e] [] pos) (gOf Bb gl):=by
 with_unfolding_all exact zC hc hg hm ha he
theorem aa (ha:PF X e ga) (hr:PFA X es gl) (hs:starEach (e::es) X.env=(false,eval e X.env)::starEach es X.env:=by rfl):PFA X (e::es) (ac ga gl):=by
 with_unfolding_all exact qH ha hr hs
theorem aA {n:Nat} {f:List D->R D} (c:Callee X.prog X.w X.K X.mg X.base x k n f) (hr:Room k X.A) (ha:PFA X (e::es) gl) (hg:Gl X x:=by rfl)
 (hdb:(x==("__debug__":Str))=false:=by decide) (he:starEach (e::es) X.env=(false,eval e X.env)::starEach es X.env:=by rfl) (hpl:(backTo pos (starEach es X.env)).any (·.1)=false:=by rfl):PF X (.Call (.Name x p) (e::es) [] pos) (aG n f gl):=by
 with_unfolding_all exact ww c hr ha hg hdb he hpl
theorem nT {gens:List Comprehension} {sc:Scope} (h:PFL X (.ListComp e gens sc pos) gl):PF X (.ListComp e gens sc pos) (bL gl):=by
 with_unfolding_all exact nJ h
theorem fV (h:PFL X (.List es pos) gl):PF X (.List es pos) (bL gl):=by
 with_unfolding_all exact nJ h
theorem jd (h:PFA X es gl):PFL X (.List es pos) (qI gl):=by
 with_unfolding_all exact yG h
theorem bV (h:PFA X es gl):PF X (.Tuple es k pos) (az mkT gl):=by
 with_unfolding_all exact As h
theorem Eo (ha:PF X a ga):PF X (.UnaryOp .USub a pos) (az El ga):=by
 with_unfolding_all exact A5 ha
theorem CZ (hm:X.mg "isinstance"=none) (ha:PF X e ga) (hm2:X.mg "int"=none) (hg2:Gl X "int":=by rfl) (hg:Gl X "isinstance":=by rfl) (hs1:starEach [e,.Name "int" p2] X.env=(false,eval e X.env)::starEach [.Name "int" p2] X.env:=by rfl):PF X (.Call (.Name "isinstance" p) [e,.Name "int" p2] [] pos) (az (iV isInt) ga):=by
 with_unfolding_all exact vN hm ha hm2 hg2 hg hs1
theorem zD (hm:X.mg "isinstance"=none) (ha:PF X e ga) (hm2:X.mg "bool"=none) (hg2:Gl X "bool":=by rfl) (hg:Gl X "isinstance":=by rfl) (hs1:starEach [e,.Name "bool" p2] X.env=(false,eval e X.env)::starEach [.Name "bool" p2] X.env:=by rfl):PF X (.Call (.Name "isinstance" p) [e,.Name "bool" p2] [] pos) (az (iV (·=="bool")) ga):=by
 with_unfolding_all exact sO hm ha hm2 hg2 hg hs1
theorem CH (hm:X.mg "isinstance"=none) (ha:PF X e ga) (hm2:X.mg "str"=none) (hg2:Gl X "str":=by rfl) (hg:Gl X "isinstance":=by rfl) (hs1:starEach [e,.Name "str" p2] X.env=(false,eval e X.env)::starEach [.Name "str" p2] X.env:=by rfl):PF X (.Call (.Name "isinstance" p) [e,.Name "str" p2] [] pos) (az (iV (·=="str")) ga):=by
 with_unfolding_all exact wP hm ha hm2 hg2 hg hs1
theorem jb (hm:X.mg "isinstance"=none) (ha:PF X e ga) (hm2:X.mg "tuple"=none) (hg2:Gl X "tuple":=by rfl) (hg:Gl X "isinstance":=by rfl) (hs1:starEach [e,.Name "tuple" p2] X.env=(false,eval e X.env)::starEach [.Name "tuple" p2] X.env:=by rfl):PF X (.Call (.Name "isinstance" p) [e,.Name "tuple" p2] [] pos) (az (iV (·=="tuple")) ga):=by
 with_unfolding_all exact rm hm ha hm2 hg2 hg hs1
theorem fb (h:PF X e ga):PFO X (some e) (iK ga):=by
 with_unfolding_all exact wc h
theorem BU (ha:PF X a ga) (hb:PF X b gb):PB X (.Compare a [.Lt] [b] pos) (gB2 ltD ga gb):=by
 with_unfolding_all exact DR ha hb
theorem Iu (ha:PF X a ga) (hb:PF X b gb):PB X (.Compare a [.LtE] [b] pos) (gB2 leD ga gb):=by
 with_unfolding_all exact BS ha hb
theorem za (ha:PF X a ga) (hb:PF X b gb):PB X (.Compare a [.Gt] [b] pos) (gB2 gtD ga gb):=by
 with_unfolding_all exact DL ha hb
theorem oq (hu:X.A.units+64<cLine) (ha:PF X a ga) (hb:PF X b gb):PB X (.Compare a [.Eq] [b] pos) (gB2 eqF ga gb):=by
 with_unfolding_all exact DP hu ha hb
theorem pU (hu:X.A.units+64<cLine) (ha:PF X a ga) (hb:PF X b gb):PB X (.Compare a [.NotEq] [b] pos) (gB2 neF ga gb):=by
 with_unfolding_all exact DQ hu ha hb
theorem G6 (ha:PF X a ga) (hb:PF X b gb):PB X (.Compare a [.Is] [b] pos) (gB2 isF ga gb):=by
 with_unfolding_all exact CS ha hb
theorem De (ha:PF X a ga) (hb:PF X b gb) (hc:PF X c gc) (hm:lastMarks [.LtE,.LtE] [b,c]=false:=by with_unfolding_all rfl):PB X (.Compare a [.LtE,.LtE] [b,c] pos) (gB3 leD leD ga gb gc):=by
 with_unfolding_all exact yg ha hb hc hm
theorem fR (ha:PB X a gt):PB X (.UnaryOp .Not a pos) (gBn gt):=by
 with_unfolding_all exact zu ha
theorem gF (h:PF X (.Call a es [] pos) ga):PB X (.Call a es [] pos) (az jx ga):=by
 with_unfolding_all exact oh h
theorem pj {op:BoolOp} (h:PBW X (.BoolOp op es pos) gt):PB X (.BoolOp op es pos) gt:=by
 walk_at "u"
 exact fun pins s σ H Q I q=>h _ pins s σ H Q I q
theorem jt (ha:PF X a ga):PIF X tg a (az ca ga):=by
 with_unfolding_all exact xY ha
theorem uv (hg:Gl X "range") (hm:X.mg "range"=none) (ha:PFA X [a] gl) (hs:starEach [a] X.env=[(false,eval a X.env)]:=by rfl):PIF X tg (.Call (.Name "range" p) [a] [] pos) (az eO gl):=by
 with_unfolding_all exact rV hg hm ha hs
end
section
variable {X:Cx} {N:List Str} {i:Nat} {x:Str} {pos:Pos}
theorem ae {w:World} {K:PySem.W.Frag} {mg:Str->Option Value} {base:Heap} {A:Around} {outer:List Env} {E:XK} (h:At N i x)
 (hv:Vis (kQ CX P w K mg base N qual scope f cdv A outer s H E).env.scope x:=by first|exact Or.inl rfl|exact Or.inr (Or.inl rfl)|exact Or.inr (Or.inr rfl)) (hd:(x==("__debug__":Str))=false:=by decide)
 (hcd:(x==("__classdict__":Str))=false:=by decide):PF (kQ CX P w K mg base N qual scope f cdv A outer s H E) (.Name x pos) (fun ρ=>rdV ρ i):=by
 with_unfolding_all exact uq i h hv hd hcd
theorem fP {s₂:Shared} {H₂:Hp} (h:At N i x)
 (hv:Vis (cE X N scope C s₂ H₂ fp).env.scope x:=by first|exact Or.inl rfl|exact Or.inr (Or.inl rfl)|exact Or.inr (Or.inr rfl)) (hd:(x==("__debug__":Str))=false:=by decide)
 (hcd:(x==("__classdict__":Str))=false:=by decide):PF (cE X N scope C s₂ H₂ fp) (.Name x pos) (fun ρ=>rdV ρ i):=by
 with_unfolding_all exact uq i h hv hd hcd
theorem bX {w:World} {K:PySem.W.Frag} {mg:Str->Option Value} {base:Heap} {A:Around} {outer:List Env} {E:XK} {e:Expr} {ga:Ev->R D} (h:At N i x) (hN:N.Nodup)
 (he:PF (kQ CX P w K mg base N qual scope f cdv A outer s H E) e ga) (hx:Loc (kQ CX P w K mg base N qual scope f cdv A outer s H E).env.scope x:=by first|exact Or.inl rfl|exact Or.inr rfl)
 (hs:swapsWithSole [.Name x p] e pos.line (kQ CX P w K mg base N qual scope f cdv A outer s H E).env=pure false:=by rfl) (hw:swappedStores [.Name x p] e (kQ CX P w K mg base N qual scope f cdv A outer s H E).env=pure none:=by rfl)
 (hf:(kQ CX P w K mg base N qual scope f cdv A outer s H E).fn x=true\/(kQ CX P w K mg base N qual scope f cdv A outer s H E).env.scope.names.lookup x=some .local:=by first|exact .inl rfl|exact .inr rfl):PSF (kQ CX P w K mg base N qual scope f cdv A outer s H E) (.Assign [.Name x p] e pos) (fw i ga):=by
 with_unfolding_all exact Dm i hN he h hx hs hw hf
end
section
theorem jG {e:Expr} {ga:Ev->R D} {np cp:Pos} (r:Ref x C X.mg X.base) (hh:X.A.handled=none) (ha:PF X e ga) (hg:Gl X x:=by rfl)
 (hdb:(x==("__debug__":Str))=false:=by decide) (hs:starEach [e] X.env=(false,eval e X.env)::starEach [] X.env:=by rfl):PSF X (.Raise (some (.Call (.Name x np) [e] [] cp)) none pos) (iY C (ac ga fun _=>.ok [])):=by
 walk_at "u"
 obtain ⟨bm,B,newId,initId,Oc,FB⟩:=r.ex
 exact qS Oc FB hh hg (qH ha rK hs) hdb hs (fun ρ ds h=>Cw h)
end
section
variable {X:Cx} {st:Stmt} {cG body:List Stmt} {e c o:Expr} {es:List Expr} {g:Ev->O} {ga:Ev->R D} {gl:Ev->R (List D)} {pos p p2:Pos}
theorem um (i:Nat) {ap cp:Pos} (he:PF X e ga) (hi:X.N[i]?=some x:=by rfl) (hv:Vis X.env.scope x:=by first|exact Or.inl rfl|exact Or.inr (Or.inl rfl))
 (hd:(x==("__debug__":Str))=false:=by decide) (hcd:(x==("__classdict__":Str))=false:=by decide) (hs1:starEach [e] X.env=(false,eval e X.env)::starEach [] X.env:=by rfl)
 (hbase:attributeBase (.Name x p) "append" X.env (eval (.Name x p) X.env)=eval (.Name x p) X.env:=by rfl)
 (hfew:((backTo cp (starEach [e] X.env)).all (fun x=>!x.1) && (backToKw cp (keywordEach [] X.env)).all (fun x=>x.1.isSome)
 && decide ([e].length+([]:List Keyword).length+(if ([]:List Keyword).isEmpty then 0 else 1)<30))=true:=by rfl)
 (hline:(ap.endLine==cp.line)=true:=by rfl)
 (hs:swapsWith (.Call (.Attribute (.Name x p) "append" ap) [e] [] cp) none pos.line X.env=pure false:=by rfl):PSF X (.Expr (.Call (.Attribute (.Name x p) "append" ap) [e] [] cp) pos) (GN i ga):=by
 with_unfolding_all exact pL i he hi hv hd hcd hs1 hbase hfew hline hs
theorem CO (i j:Nat) {y:Str} {a b:Expr} {px py pt pt2:Pos} {k2:Nat} (hc:X.calm=true) (hN:X.N.Nodup) (ha:PFA X [a,b] gl) (hij:i≠j:=by decide) (hi:X.N[i]?=some x:=by rfl) (hj:X.N[j]?=some y:=by rfl)
 (hx:X.env.scope.names.lookup x=some .local:=by rfl) (hy:X.env.scope.names.lookup y=some .local:=by rfl)
 (hw:swappedStores [.Tuple [.Name x px,.Name y py] kt pt] (.Tuple [a,b] k2 pt2) X.env=pure (some [x,y]):=by rfl)
 (hs:swapsWithSole [.Tuple [.Name x px,.Name y py] kt pt] (.Tuple [a,b] k2 pt2) pos.line X.env=pure false:=by rfl):PSF X (.Assign [.Tuple [.Name x px,.Name y py] kt pt] (.Tuple [a,b] k2 pt2) pos) (GC i j gl):=by
 with_unfolding_all exact vU i j hc hN ha hij hi hj hx hy hw hs
theorem tW (h:PF X (.Name x pos) ga):PB X (.Name x pos) (az jx ga):=by
 with_unfolding_all exact oh h
theorem Ck {sts:List Stmt} (i:Nat) (h:wT X sts g):wT X sts (Et i g):=by
 with_unfolding_all exact tt i h
end
section
variable {X:Cx} {st:Stmt} {cG body a b:List Stmt} {e c tg:Expr} {g g1 g2:Ev->O} {ga gb:Ev->R D} {gt:Ev->R Bool} {gl:Ev->R (List D)} {pos:Pos}
theorem E6 (j i:Nat) (hN:X.N.Nodup) (he:PF X e ga) (hi:X.N[i]?=some x:=by rfl) (hx:Loc X.env.scope x:=by first|exact Or.inl rfl|exact Or.inr rfl)
 (hs:swapsWithSole [.Name x p] e pos.line X.env=pure false:=by rfl) (hw:swappedStores [.Name x p] e X.env=pure none:=by rfl) (hf:X.fn x=true\/X.env.scope.names.lookup x=some .local:=by first|exact .inl rfl|exact .inr rfl):PSF X (.Assign [.Name x p] e pos) (DT j i ga):=by
 walk_at "u"
 exact fun G₀ H₀ pins s σ H D I h=>by
  refine mx he (jH (i:=i) hN hi hx hf) hs hw rfl pins s σ H D I ?_
  obtain ⟨G,ρ,sr,h⟩:=h
  have h:nh X G₀ H₀ D ((gh (ga (frz j ρ))).out ρ fun d=>if fl 10 d=true then .nx (ρ.set i (some (.val d))) else .no):=h
  obtain ⟨G1,st1,pk⟩:=sr.peek j
  refine ⟨G1,_,st1,?_⟩
  cases q:ga (frz j ρ) with
  | ok d=>
   rw [q] at h
   intro v G' H' u r
   obtain ⟨G2,u2,tr⟩:=pk G' H' u
   have h:nh X G₀ H₀ D (if fl 10 d=true then .nx (ρ.set i (some (.val d))) else .no):=h
   by_cases hfl:fl 10 d=true
   ·rw [if_pos hfl] at h
    exact h _ G2 _ ((sr.ups u2).set (yE tr 10 v d hfl r) i)
   ·rw [if_neg hfl] at h;exact h.elim
  | _=>rw [q] at h;exact h.elim
theorem ER (i:Nat) {tp:Pos} {ix:Expr} {gk:Ev->R D} (he:PF X e ga) (hk:PF X ix gk) (hi:X.N[i]?=some x:=by rfl) (hv:Vis X.env.scope x:=by first|exact Or.inl rfl|exact Or.inr (Or.inl rfl))
 (hd:(x==("__debug__":Str))=false:=by decide) (hcd:(x==("__classdict__":Str))=false:=by decide)
 (hs:swapsWithSole [.Subscript (.Name x p) ix tp] e pos.line X.env=pure false:=by rfl) (hw:swappedStores [.Subscript (.Name x p) ix tp] e X.env=pure none:=by rfl)
 (h1':(assignEach [.Subscript (.Name x p) ix tp] X.env).map (·.2)=[assign (.Subscript (.Name x p) ix tp) X.env]:=by rfl)
 (ha:∀ v,assign (.Subscript (.Name x p) ix tp) X.env v=(do
 let ov <- holding [v] (eval (.Name x p) X.env)
 let iv <- holding [v,ov] (eval ix X.env)
 standAt tp
 holding [v,ov,iv] (setItem ov iv v)
 release [v,ov,iv] []):=by intro _;rfl):PSF X (.Assign [.Subscript (.Name x p) ix tp] e pos) (CP i gk ga):=by
 walk_at "u"
 exact fun G₀ H₀ pins s σ H D I h=>by
  refine mx he (Bd (ip hi hv hd hcd) hk zW ha) hs hw h1' pins s σ H D I ?_
  obtain ⟨G,ρ,sr,h⟩:=h
  have h:nh X G₀ H₀ D ((ownAt ρ i).out ρ fun ds=>(gh (ga (frz i ρ))).out ρ fun d=>(gh (gk (frz i ρ)>>=asI)).out ρ fun k=>match ixN ds.length k with
   | some n=>if fl 10 d=true then .nx (ρ.set i (some (.own (ds.set n d)))) else .no
   | none=>.no):=h
  obtain ⟨ds,e1,h⟩:=ownAt.ok h
  obtain ⟨l,vs,h1,h2,h3,h4,h5⟩:=sr.own i ds e1
  obtain ⟨G1,st1,pk⟩:=sr.peek i
  refine ⟨G1,_,st1,?_⟩
  cases q:ga (frz i ρ) with
  | ok d=>
   rw [q] at h
   intro v G' H' u r
   have h:nh X G₀ H₀ D ((gh (gk (frz i ρ)>>=asI)).out ρ fun k=>match ixN ds.length k with
    | some n=>if fl 10 d=true then .nx (ρ.set i (some (.own (ds.set n d)))) else .no
    | none=>.no):=h
   show I8 _ _ _ v σ H' _
   refine ⟨.ref l,h1,G',_,st1.up u,?_⟩
   cases q2:gk (frz i ρ) with
   | ok kd=>
    rw [q2] at h
    intro kv G'' H'' u' rk
    cases rk with
    | int k=>
     have h:nh X G₀ H₀ D (match ixN ds.length k with
      | some n=>if fl 10 d=true then .nx (ρ.set i (some (.own (ds.set n d)))) else .no
      | none=>.no):=h
     obtain ⟨G2,u2,tr⟩:=pk G'' H'' (u.trans u')
     cases q3:ixN ds.length k with
     | none=>rw [q3] at h;exact h.elim
     | some n=>
      rw [q3] at h
      have h:nh X G₀ H₀ D (if fl 10 d=true then .nx (ρ.set i (some (.own (ds.set n d)))) else .no):=h
      by_cases hz:fl 10 d=true
      ·rw [if_pos hz] at h
       refine ⟨l,vs,k,n,rfl,rfl,(u.trans u').hh _ _ h2,by rw [h5.length];exact q3,h _ G2 _ ?_⟩
       exact (sr.ups u2).mut e1 h1 (.set (yE tr 10 v d hz (r.mono u'.gg)) n (h5.mono u2.gg))
      ·rw [if_neg hz] at h;exact h.elim
    | _=>exact h.elim
   | _=>rw [q2] at h;exact h.elim
  | _=>rw [q] at h;exact h.elim
theorem vQ (hg:Gl X "list") (hm:X.mg "list"=none) (ha:PFA X [e] gl) (he:starEach [e] X.env=(false,eval e X.env)::starEach [] X.env:=by rfl):PFL X (.Call (.Name "list" p) [e] [] pos) (CC gl):=by
 walk_at "u"
 intro pins s σ H Q I hq
 refine mF km hg hm PyProof.Rows.Boot.«list» ha (by decide) (by decide) he rfl pins s σ H Q I ?_
 obtain ⟨G,ρ,st,hq⟩:=hq
 have hq:(gl ρ>>=BV).post (zp X.K G H Q) (Exx X σ G H):=hq
 refine ⟨G,ρ,st,?_⟩
 cases q:gl ρ with
 | ok ds=>
  rw [q] at hq
  intro vs G' H' u r
  have hq:(BV ds).post (zp X.K G H Q) (Exx X σ G H):=hq
  unfold BV at hq
  split at hq
  ·obtain ⟨v,rfl,rv⟩:=r.one
   cases rv with
   | lst hs t=>exact ⟨_,_,rfl,.inl (.of (u.sub _ _ hs)),fun l hl=>hq l _ G' H' u hl t⟩
   | fls hs t=>exact ⟨_,_,rfl,.inl (hs.mono u.sub),fun l hl=>hq l _ G' H' u hl t⟩
   | tup hs t=>exact ⟨_,_,rfl,.inr (hs.mono u.sub),fun l hl=>hq l _ G' H' u hl t⟩
   | _=>exact hq.elim
  ·exact hq.elim
 | ex C=>rw [q] at hq;exact hq
 | no=>rw [q] at hq;exact hq
theorem xF {a b:Expr} (hg:Gl X "range") (hm:X.mg "range"=none) (ha:PFA X [a,b] gl) (hs:starEach [a,b] X.env=[(false,eval a X.env),(false,eval b X.env)]:=by rfl) (hs2:starEach [b] X.env=[(false,eval b X.env)]:=by rfl):PIF X tg (.Call (.Name "range" p) [a,b] [] pos) (az iB gl):=by
 with_unfolding_all exact qG hg hm ha hs hs2
end
section
variable {X:Cx}
theorem uU {e:Expr} {ga:Ev->R D} {p2:Pos} (hm:X.mg "isinstance"=none) (ha:PF X e ga) (hm2:X.mg "list"=none) (hg2:Gl X "list":=by rfl) (hg:Gl X "isinstance":=by rfl) (hs1:starEach [e,.Name "list" p2] X.env=(false,eval e X.env)::starEach [.Name "list" p2] X.env:=by rfl):PF X (.Call (.Name "isinstance" p) [e,.Name "list" p2] [] pos) (az (iV (·=="list")) ga):=by
 with_unfolding_all exact sv hm ha hm2 hg2 hg hs1
theorem zK {e:Expr} (hg:Gl X "list") (hm:X.mg "list"=none) (ha:PFA X [e] gl) (he:starEach [e] X.env=(false,eval e X.env)::starEach [] X.env:=by rfl):PF X (.Call (.Name "list" p) [e] [] pos) (gOf xQ gl):=by
 with_unfolding_all exact ma km (DZ _) hg hm PyProof.Rows.Boot.«list» ha (by decide) (by decide) he rfl
end
section
variable {X:Cx} {a b:Expr} {ga gb:Ev->R D} {elts:List Expr} {kt:Nat} {p pos tp kp:Pos}
theorem CU (hg:Gl X "enumerate") (hm:X.mg "enumerate"=none) (ha:PF X a ga) (hs:starEach [a] X.env=(false,eval a X.env)::starEach [] X.env:=by rfl):PIF X (.Tuple elts kt tp) (.Call (.Name "enumerate" p) [a] [] pos) (az yb ga):=by
 walk_at "u"
 intro pins s σ H Rr I h
 obtain ⟨G,ρ,st,h⟩:=h
 have ta:A7 (tF X ga) Jf σ H (fun vs H1=>∃ v,vs=[v]/\∃ G1 d,Up G H G1 H1/\Rep X.K G1 v d/\Same G1 H1/\(yb d).post (Fin G1 H1 (fun G J items=>ItOk X.K G J items) Rr) (Exx X σ G1 H1)):=
  tG.intro st h fun d v G1 H1 u1 st1 r1 h1=>⟨v,rfl,G1,d,u1,r1,st1.sub,h1⟩
 refine Call_ (lK I hg hm PyProof.Rows.Boot.«enumerate» (PyProof.Rows.callWith_type1 (thn ((fN ha lC hs) pos pins s σ H _ I ta) fun us s1 ⟨vs,H1,I1,r1,q1⟩=>?_) hs rfl))
 obtain ⟨v,hv,G1,d,u1,rd,sub,h1⟩:∃ v,vs=[v]/\∃ G1 d,Up G H G1 H1/\Rep X.K G1 v d/\Same G1 H1/\(yb d).post (Fin G1 H1 (fun G J items=>ItOk X.K G J items) Rr) (Exx X σ G1 H1):=q1
 subst hv
 obtain ⟨u,rfl,rv⟩:=r1.one
 cases rd with
 | lst hq t=>
  cases rv
  have hq':SqL X.K G1 _ _:=.of hq
  obtain ⟨its,rvs,p,hz⟩:=I1.list (hq'.mono sub)
  exact call_enumerate_list p.isList fun h' he hi hsz hk=>wpAny_pyIter_enum he (pf (c:=0) I1 (qP _ _) (SqL.lt' I1 (hq'.mono sub)) he hi hk (h1 _ G1 H1 (.refl sub) (ItOk.enum (fun G2 H2 s1 s2=>(hq'.mono s1).mono s2) t)))
 | fls hq t=>
  cases rv
  obtain ⟨its,rvs,p,hz⟩:=I1.list (hq.mono sub)
  exact call_enumerate_list p.isList fun h' he hi hsz hk=>wpAny_pyIter_enum he (pf (c:=0) I1 (qP _ _) (SqL.lt' I1 (hq.mono sub)) he hi hk (h1 _ G1 H1 (.refl sub) (ItOk.enum (fun G2 H2 s1 s2=>(hq.mono s1).mono s2) t)))
 | tup hq t=>
  cases rv
  obtain ⟨its,rvs,⟨⟨cls,dd,data,sl⟩,ho,hc,n,hd⟩,hz⟩:=I1.tuple (hq.mono sub)
  simp only at hc hd
  subst hc hd
  exact Av ho fun h' he hi hsz hk=>wpAny_pyIter_enum he (pf (c:=0) I1 (yz _ _) (SqT.lt' I1 (hq.mono sub)) he ⟨_,hi,rfl,rfl⟩ hk (h1 _ G1 H1 (.refl sub) (ItOk.enum (fun G2 H2 s1 s2=>(hq.mono s1).mono s2) t)))
 | _=>exact h1.elim
end
section
variable {X:Cx}
theorem HW {e:Expr} (hc:X.calm=true) (hg:Gl X "sum") (hm:X.mg "sum"=none) (ha:PFA X [e] gl) (he:starEach [e] X.env=(false,eval e X.env)::starEach [] X.env:=by rfl):PF X (.Call (.Name "sum" p) [e] [] pos) (gOf D6 gl):=by
 with_unfolding_all exact jJ (yj hc) (CV _) hg hm PyProof.Rows.Boot.«sum» ha (by decide) (by decide) he rfl
end
section
theorem Fun.okM {w:World} {K:PySem.W.Frag} {mg:Str->Option Value} {base:Heap} {N:List Str} (Fn:Fun K x qual st f fd) (S:FnScope N ps (am st)) {g:Ev->O} (ok:qN C g N.length F)
 (hbody:∀ (cdv:Value) (A:Around) (outer:List Env) (s:Shared) (H:Hp) (E:XK),Room k (A.deeper (envOfC qual (am st) s.heap.objs.size f cdv))->wT (kQ (CXo P w) P w K mg base N qual (am st) f cdv A outer s H E) (ck st) g):FnM P w K mg base (k+1) f fd ps C F:=by
 walk_at "u"
 obtain ⟨oc,od,kV,doc,pm,an,cdv,ct,osl,rfl,lk,hcd⟩:=Fn.ex
 refine C9 lk hcd S (fun vs H Q E h=>h.1) fun A outer s H vs Q E hr hsp=>?_
 obtain ⟨hl,G,p,us,ds,fs,ow,rfl,r,sub,og,ob,h⟩:=hsp
 have o:=ok p fs ds
 have rdo:StR K G H G H (start N (.ref p::us)) (eG false C p fs N.length ds):=rZ sub (.refl sub) r (ob.ro H)
 cases q:F fs ds with
 | no=>rw [q] at h;exact h.elim
 | rd d=>
  rw [q] at h o
  refine ⟨_,hbody cdv A outer s H E hr G H,G,_,rdo,?_⟩
  have o:g (eG false C p fs N.length ds)=.rt d:=o
  rw [o]
  exact fun v G' H' u rv=>h v G' H' u rv
 | ex C'=>
  rw [q] at h o
  obtain ⟨ρ',o⟩:=o
  refine ⟨_,hbody cdv A outer s H E hr G H,G,_,rdo,?_⟩
  rw [o]
  exact fun e s' fl=>oz fl h
 | ok d fs'=>
  rw [q] at h o
  obtain ⟨ρ',e0,o⟩:=o
  obtain ⟨s0,u0⟩:=F9 sub og
  refine ⟨_,hbody cdv A outer s H E hr G (hid H ow),G,eG true C p fs N.length ds,rZ s0 u0 r (ob.hid true),?_⟩
  have fin:∀ σ G' H',StR K G (hid H ow) G' H' σ ρ'->∃ ow',ObjAt K (hid H ow) G' H' ow' 0 true C p fs':=fun σ G' H' sr=>by
   obtain ⟨ow',_,o2⟩:=sr.ob
   exact ⟨ow',(o2 0 true C p fs' e0).2⟩
  rcases o with o|⟨o,rfl⟩
  ·rw [o]
   intro v σ G' H' sr rv
   obtain ⟨ow',z⟩:=fin σ G' H' sr
   exact h v G' H' ow' sr.up z rv
  ·rw [o]
   intro σ G' H' sr
   obtain ⟨ow',z⟩:=fin σ G' H' sr
   exact h .non G' H' ow' sr.up z .non
end
section
variable {X:Cx} {st:Stmt} {cG:List Stmt} {g1:Ev->O} {gs:Ev->O} {α:Type} {g2:α->Ev->O} {e:Expr} {es:List Expr} {gl gl':Ev->R (List D)} {cn:Str} {k n:Nat} {C:Addr} {F:MF} {p pos:Pos}
theorem xg (h:wT X cG gs):BP X cG (CI gs):=by
 walk_at "u"
 exact fun G₀ H₀ pins s σ H D I ⟨G,ρ,sr,q⟩=>h G₀ H₀ pins s σ H D I ⟨G,ρ,sr,q ()⟩
end
section
theorem Fun.okA {w:World} {K:PySem.W.Frag} {mg:Str->Option Value} {base:Heap} {N:List Str} {α:Type} (F:Fun K x qual st f fd) (S:FnScope N ps (am st)) {g:α->Ev->O}
 (hg:∀ ds,ds.length=ps.length->gr ds=.no\/∀ q,au (g q (ar N.length ds))=gr ds)
 (hbody:∀ (cdv:Value) (A:Around) (outer:List Env) (s:Shared) (H:Hp) (E:XK),Room k (A.deeper (envOfC qual (am st) s.heap.objs.size f cdv))->BP (kQ (CXo P w) P w K mg base N qual (am st) f cdv A outer s H E) (ck st) g):FnF P w K mg base (k+1) f fd ps gr:=by
 walk_at "u"
 obtain ⟨oc,od,kV,doc,pm,an,cdv,ct,osl,rfl,lk,hcd⟩:=F.ex
 refine C9 lk hcd S (fun vs H Q E h=>h.1) fun A outer s H vs Q E hr hsp=>?_
 obtain ⟨hl,G,ds,sub,r,h⟩:=hsp
 refine ⟨_,hbody cdv A outer s H E hr G H,G,ar N.length ds,uH sub r,fun q0=>?_⟩
 rcases hg ds (by rw [<- r.length];exact hl) with z|z
 ·rw [z] at h;exact h.elim
 ·rw [<- z q0] at h
  cases q:g q0 (ar N.length ds) with
  | nx ρ=>rw [q] at h;exact fun σ G' H' sr=>h .non G' H' sr.up .non
  | rt d=>rw [q] at h;exact fun v G' H' u rv=>h v G' H' u rv
  | re d ρ=>rw [q] at h;exact fun v σ G' H' sr rv=>h v G' H' sr.up rv
  | bk ρ=>rw [q] at h;exact h.elim
  | ct ρ=>rw [q] at h;exact h.elim
  | ex C ρ=>rw [q] at h;exact fun e s' fl=>oz fl h
  | no=>rw [q] at h;exact h.elim
end
section
variable {X:Cx} {es:List Expr} {gl:Ev->R (List D)} {x y:Str} {i k n:Nat} {C:Addr} {F:MF} {p1 py pos:Pos}
theorem nM (i:Nat) (c:CalleeM X.prog X.w X.K X.mg X.base C x k n F) (hr:Room k X.A) (ha:PFA X es gl) (hi:X.N[i]?=some y:=by rfl) (hv:Vis X.env.scope y:=by first|exact Or.inl rfl|exact Or.inr (Or.inl rfl)|exact Or.inr (Or.inr rfl))
 (hd:(y==("__debug__":Str))=false:=by decide) (hcd:(y==("__classdict__":Str))=false:=by decide) (hg:Gl X x:=by rfl) (hdb:(x==("__debug__":Str))=false:=by decide)
 (hst:starEach (.Name y py::es) X.env=(false,eval (.Name y py) X.env)::starEach es X.env:=by rfl) (hpl:(backTo pos (starEach es X.env)).any (·.1)=false:=by rfl):PFX X (.Call (.Name x p1) (.Name y py::es) [] pos) (ja C i n F gl):=by
 walk_at "u"
 exact fun G₀ H₀ pins s σ H Q I h=>by
  obtain ⟨f,fd,ps,M,hm,hk,hb,hl⟩:=c.ex
  obtain ⟨G,ρ,sr,h⟩:=h
  obtain ⟨mm,p,fs,e1,h⟩:=DD h
  obtain ⟨h1,_⟩:=sr.e.obs i mm C p fs e1
  have v:PE X (.Name y py) (GJ i):=ip hi hv hd hcd
  refine wpAny_Call_Name_kw (pe I hg hm ?_ hdb)
  have t:A7 (GJ i) (tAF X gl) σ H (fun vs H1=>∃ ws G1 ds,vs=.ref p::ws/\StR X.K G₀ H₀ G1 H1 σ ρ/\Reps X.K G1 ws ds/\ds.length=n/\Bo X G₀ H₀ σ Q ((F fs ds).outX mm C p i ρ)):=
   ⟨_,h1,Fu sr h fun vs G1 H1 ds s1 r hz h=>⟨vs,G1,ds,rfl,s1,r,hz,h⟩⟩
  refine PySem.W.callWith_K (h₀:=X.base) I.ok.mod.kin hk (thn (fN v ha hst pos pins s σ H _ I t) fun us s2 q=>⟨?_,?_⟩) hst hpl
  ·obtain ⟨vs,H1,I1,r,_⟩:=q;exact I1.kIn
  obtain ⟨vs,H1,I1,r,ws,G1,ds,rfl,s2,rp,hz,h2⟩:=q
  cases r with
  | cons ru r=>
   obtain rfl:=ru
   exact vR M hr hb hl I1 r rp hz s2 e1 h2
end
section
theorem nO {e:Expr} {g:Ev->O} (h:PFX X e g) (hs:swapsWith e none pos.line X.env=pure false:=by rfl):PSF X (.Expr e pos) (dZ g):=by
 walk_at "u"
 exact fun G₀ H₀ pins s σ H D I ⟨G,ρ,sr,q⟩=>by
  refine pY (h G₀ H₀) hs pins s σ H D I ⟨G,ρ,sr,?_⟩
  unfold dZ at q
  cases e:g ρ with
  | re d ρ'=>rw [e] at q;exact fun v G' H' s' r=>q σ G' H' s'
  | ex C ρ'=>rw [e] at q;exact q
  | _=>rw [e] at q;exact q.elim
end
section
variable {X:Cx} {e:Expr} {ge ga:Ev->R D} {x:Str} {p pos:Pos}
theorem zO (i:Nat) (hu:X.A.units+64<cLine) (he:PF X e ge) (hi:X.N[i]?=some x:=by rfl) (hv:Vis X.env.scope x:=by first|exact Or.inl rfl|exact Or.inr (Or.inl rfl)|exact Or.inr (Or.inr rfl))
 (hd:(x==("__debug__":Str))=false:=by decide) (hcd:(x==("__classdict__":Str))=false:=by decide) (hm:behindInMarks .In (.Name x p)=false:=by rfl):PB X (.Compare e [.In] [.Name x p] pos) (qb false i ge):=by
 walk_at "u"
 exact fun pins s σ H Q I h=>
  sy (Fi hu) he (ip hi hv hd hcd) hm pins s σ H Q I (uN h)
theorem ED (i:Nat) (hu:X.A.units+64<cLine) (he:PF X e ge) (hi:X.N[i]?=some x:=by rfl) (hv:Vis X.env.scope x:=by first|exact Or.inl rfl|exact Or.inr (Or.inl rfl)|exact Or.inr (Or.inr rfl))
 (hd:(x==("__debug__":Str))=false:=by decide) (hcd:(x==("__classdict__":Str))=false:=by decide) (hm:behindInMarks .NotIn (.Name x p)=false:=by rfl):PB X (.Compare e [.NotIn] [.Name x p] pos) (qb true i ge):=by
 walk_at "u"
 exact fun pins s σ H Q I h=>
  sy (DW hu) he (ip hi hv hd hcd) hm pins s σ H Q I (uN h)
theorem rj (i:Nat) (hu:X.A.units+64<cLine) (he:PF X e ge) (hi:X.N[i]?=some x:=by rfl) (hv:Vis X.env.scope x:=by first|exact Or.inl rfl|exact Or.inr (Or.inl rfl)|exact Or.inr (Or.inr rfl))
 (hd:(x==("__debug__":Str))=false:=by decide) (hcd:(x==("__classdict__":Str))=false:=by decide) (hs:sF e:=by intro _ _;rfl):PF X (.Subscript (.Name x p) e pos) (gy i ge):=by
 walk_at "u"
 exact fun pins s σ H Q I h=>by
  refine Fm (Gc hu) (ip hi hv hd hcd) he hs pins s σ H Q I ?_
  obtain ⟨G,ρ,st,h⟩:=h
  have h:(qQ ρ i>>=fun kv=>ge ρ>>=fun d=>ofO ((se d).bind fun n=>kv.lookup n)).post (Fin G H (Rep X.K) Q) (Exx X σ G H):=h
  cases q:qQ ρ i with
  | ok kv=>
   rw [q] at h
   obtain ⟨c,o,xs,ks,ds,g1,g2,g3,g4,rfl⟩:=st.dct q
   refine ⟨.ref c,g1,tG.intro st h fun d v G1 H1 u1 st1 r1 h1=>?_⟩
   obtain ⟨w,e2,h1⟩:=ofO.ok h1
   cases e1:se d with
   | none=>rw [e1] at e2;cases e2
   | some n=>
    rw [e1] at e2
    have e2:(ks.zip ds).lookup n=some w:=e2
    obtain ⟨q,a,b,rfl,rfl,hq⟩:=kZ e1 r1
    rcases g3.look g4 with ⟨y1,_⟩|⟨d',v',y1,y2,y3⟩
    ·rw [y1] at e2;cases e2
    ·rw [y1] at e2
     cases e2
     exact ⟨c,o,xs,q,[a,b],v',rfl,rfl,u1.hh _ _ g2,fun z hz=>(g3.inH st.sub z hz).mono u1.hh,hq.mono st1.sub,y2,h1 v' G1 H1 (.refl st1.sub) (y3.mono u1.gg)⟩
  | ex C=>exact (xw q).elim
  | no=>rw [q] at h;exact h.elim
end
section
variable {X:Cx} {e ix:Expr} {ge ga gk:Ev->R D} {x:Str} {p tp pos:Pos}
theorem Gb (i:Nat) (hu:X.A.units+64<cLine) (he:PF X e ga) (hk:PF X ix gk) (hi:X.N[i]?=some x:=by rfl) (hv:Vis X.env.scope x:=by first|exact Or.inl rfl|exact Or.inr (Or.inl rfl))
 (hd:(x==("__debug__":Str))=false:=by decide) (hcd:(x==("__classdict__":Str))=false:=by decide)
 (hs:swapsWithSole [.Subscript (.Name x p) ix tp] e pos.line X.env=pure false:=by rfl) (hw:swappedStores [.Subscript (.Name x p) ix tp] e X.env=pure none:=by rfl)
 (h1':(assignEach [.Subscript (.Name x p) ix tp] X.env).map (·.2)=[assign (.Subscript (.Name x p) ix tp) X.env]:=by rfl)
 (ha:∀ v,assign (.Subscript (.Name x p) ix tp) X.env v=(do
 let ov <- holding [v] (eval (.Name x p) X.env)
 let iv <- holding [v,ov] (eval ix X.env)
 standAt tp
 holding [v,ov,iv] (setItem ov iv v)
 release [v,ov,iv] []):=by intro _;rfl):PSF X (.Assign [.Subscript (.Name x p) ix tp] e pos) (AO i gk ga):=by
 walk_at "u"
 exact fun G₀ H₀ pins s σ H D I ⟨G,ρ,sr,h⟩=>by
  refine mx he (Bd (ip hi hv hd hcd) hk (Dy hu) ha) hs hw h1' pins s σ H D I ⟨G,ρ,sr.e,?_⟩
  obtain ⟨pp,fs,e1,h⟩:=B0 h
  obtain ⟨hσ,_⟩:=sr.e.obs i true DC pp fs e1
  cases q1:ga ρ with
  | ok d=>
   rw [q1] at h
   intro v G1 H1 u1 r1
   show I8 _ _ _ v σ H1 _
   refine ⟨.ref pp,hσ,G1,ρ,(sr.ups u1).e,?_⟩
   cases q2:gk ρ with
   | ok k=>
    rw [q2] at h
    intro kv G2 H2 u2 r2
    have sr2:=(sr.ups u1).ups u2
    obtain ⟨ow,o1,o2⟩:=sr2.ob
    obtain ⟨ob,xs,ks,ds,g1,g2,g3,g4,g5,g6,g7⟩:=(o2 i true DC pp fs e1).2.dco
    have h:nh X G₀ H₀ D (match se k with
     | some n=>if fs.length<900 then .nx (ρ.set i (some (.obj true DC pp (sf n (.val d) fs)))) else .no
     | none=>.no):=h
    cases q3:se k with
    | none=>rw [q3] at h;exact h.elim
    | some n=>
     rw [q3] at h
     have h:nh X G₀ H₀ D (if fs.length<900 then .nx (ρ.set i (some (.obj true DC pp (sf n (.val d) fs)))) else .no):=h
     by_cases hz:fs.length<900
     ·rw [if_pos hz] at h
      obtain ⟨q,a,b,rfl,rfl,hq⟩:=kZ q3 r2
      have xl:xs.length=fs.length:=by
       have l1:=g5.length
       have l2:=g6.length
       rw [List.length_map] at l2
       rw [g7,List.length_zip,List.length_map];omega
      have lb:900<sizeLine:=by decide
      refine ⟨pp,ob,xs,q,[a,b],rfl,rfl,g1,g5.inH sr2.e.sub,hq.mono sr2.e.sub,by omega,fun nd o'=>h σ G2 _ ?_⟩
      obtain ⟨ks',ds',k1,k2,k3⟩:=g5.put g6 nd hq (r1.mono u2.gg)
      have np:∀ c o,H₀ c=some o->c≠pp:=fun c o z=>aF z (g3 rfl)
      refine sr2.objTo e1 o1 o2 (ow2:=ow) (fun c o z nt=>?_) (fun c o z=>?_) (fun c o z=>?_) (fun _ _ _ _ _ z _=>z) (.inr ⟨rfl,o',_,ks',ds',aS,g2,g3,g4,k1,k2,by rw [g7];exact k3⟩)
      ·rw [aK (fun y=>nt 0 (by rw [y];exact g4))];exact z
      ·rw [aK (np c o z)];exact sr2.up.hh c o z
      ·rw [aK (aF z g2)];exact sr2.e.sub c o z
     ·rw [if_neg hz] at h;exact h.elim
   | _=>rw [q2] at h;exact h.elim
  | _=>rw [q1] at h;exact h.elim
end
section
variable {X:Cx} {cG:List Stmt} {α:Type} {g2:α->Ev->O} {x y:Str} {e:Expr} {ga:Ev->R D} {p py pos pos':Pos}
theorem BW (i:Nat) (hN:X.N.Nodup) (h2:BP X cG g2) (hi:X.N[i]?=some y:=by rfl) (hx:Loc X.env.scope y:=by first|exact Or.inl rfl|exact Or.inr rfl)
 (hw:swappedStores [.Name y py] (.Dict [] [] pos) X.env=pure none:=by rfl) (hf:X.fn y=true\/X.env.scope.names.lookup y=some .local:=by first|exact .inl rfl|exact .inr rfl)
 (hs:swapsWithSole [.Name y py] (.Dict [] [] pos) pos'.line X.env=pure false:=by rfl):BP X (.Assign [.Name y py] (.Dict [] [] pos) pos'::cG) (BG i g2):=by
 walk_at "u"
 exact fun G₀ H₀ pins s σ H D I ⟨G,ρ,sr,h⟩=>by
  refine oY (mx D2 (jH (i:=i) hN hi hx hf) hs hw rfl) (h2 G₀ H₀) pins s σ H D I fun q o hq=>?_
  obtain ⟨u,ob⟩:=yH (o:=o) sr.e.sub hq (.nil:KeysAt X.K G [] []) (.nil:Reps X.K G [] [])
  exact ⟨G,_,sr.setObj u ob i,fun q2=>h (q,q2)⟩
theorem A2 [Inhabited α] (i:Nat) (hN:X.N.Nodup) (hg:Gl X "dict") (hm:X.mg "dict"=none) (he:PF X e ga) (h2:BP X cG g2) (hi:X.N[i]?=some y:=by rfl) (hx:Loc X.env.scope y:=by first|exact Or.inl rfl|exact Or.inr rfl)
 (hse:starEach [e] X.env=(false,eval e X.env)::starEach [] X.env:=by rfl)
 (hw:swappedStores [.Name y py] (.Call (.Name "dict" p) [e] [] pos) X.env=pure none:=by rfl) (hf:X.fn y=true\/X.env.scope.names.lookup y=some .local:=by first|exact .inl rfl|exact .inr rfl)
 (hs:swapsWithSole [.Name y py] (.Call (.Name "dict" p) [e] [] pos) pos'.line X.env=pure false:=by rfl):BP X (.Assign [.Name y py] (.Call (.Name "dict" p) [e] [] pos) pos'::cG) (zk i ga g2):=by
 walk_at "u"
 exact fun G₀ H₀ pins s σ H D I ⟨G,ρ,sr,h⟩=>by
  refine oY (mx (mF rM hg hm PyProof.Rows.Boot.«dict» (fN he lC hse) (by decide) (by decide) hse rfl) (jH (i:=i) hN hi hx hf) hs hw rfl) (h2 G₀ H₀) pins s σ H D I ⟨G,ρ,sr.e,?_⟩
  have h:∀ q:Addr×α,nh X G₀ H₀ D ((gh (ga ρ)).out ρ fun d=>match d with
   | .dct (k::ks) ds=>g2 q.2 (ρ.set i (some (.obj true DC q.1 ((k::ks).zip (ds.map Fd.val)))))
   | _=>.no):=h
  cases q1:ga ρ with
  | ok d=>
   rw [q1] at h
   intro v G1 H1 u1 r1
   cases r1 with
   | @dct c o xs ks ds hc hk hr=>
    have sr1:=sr.ups u1
    cases ks with
    | nil=>exact (h (0,default)).elim
    | cons k ks=>
     refine ⟨c,o,xs,rfl,u1.sub _ _ hc,hk.inH u1.sub,hk.twos,fun z=>by have:=hk.length;rw [z] at this;simp at this,fun q o' hq=>?_⟩
     obtain ⟨u,ob⟩:=yH (o:=o') u1.sub hq hk hr
     exact ⟨G1,_,sr1.setObj u ob i,fun q2=>h (q,q2)⟩
   | _=>exact (h (0,default)).elim
  | _=>rw [q1] at h;exact (h (0,default)).elim
theorem A9 (i:Nat) (hi:X.N[i]?=some x:=by rfl) (hv:Vis X.env.scope x:=by first|exact Or.inl rfl|exact Or.inr (Or.inl rfl)|exact Or.inr (Or.inr rfl))
 (hd:(x==("__debug__":Str))=false:=by decide) (hcd:(x==("__classdict__":Str))=false:=by decide):PSF X (.Return (some (.Name x p)) pos) (qX i):=by
 walk_at "u"
 exact fun G₀ H₀ pins s σ H D I ⟨G,ρ,sr,h⟩=>by
  unfold qX at h
  split at h
  ·rename_i C q fs e1
   split at h
   ·rename_i z
    subst z
    obtain ⟨ow,_,o2⟩:=sr.ob
    obtain ⟨hσ,ob⟩:=o2 i true DC q fs e1
    obtain ⟨o,xs,ks,ds,g1,g2,g3,g4,g5,g6,g7⟩:=ob.dco
    rw [g7,sG] at h
    have l1:=g5.length
    have l2:=g6.length
    rw [List.length_map] at l2
    have e2:(ks.zip ds).map (·.1)=ks:=List.map_fst_zip (by omega)
    have e3:(ks.zip ds).map (·.2)=ds:=List.map_snd_zip (by omega)
    have h:nh X G₀ H₀ D (.rt (.dct ((ks.zip ds).map (·.1)) ((ks.zip ds).map (·.2)))):=h
    rw [e2,e3] at h
    have into:Same G (upd G q (DctO q o xs)):=.into g2
    refine BF (ip hi hv hd hcd) pins s σ H D I ⟨_,hσ,h (.ref q) (upd G q (DctO q o xs)) H ⟨fun a u y=>?_,sr.up.gg.trans into,sr.up.hh,fun a u y=>?_⟩ (.dct aS (g5.mono into) (g6.mono into))⟩
    ·by_cases ea:a=q
     ·subst ea;rw [aS] at y;rw [<- y];exact g1
     ·rw [aK ea] at y;exact sr.e.sub a u y
    ·by_cases ea:a=q
     ·subst ea;exact .inr (g3 rfl)
     ·rw [aK ea] at y;exact sr.up.fr a u y
   ·exact h.elim
  ·exact h.elim
theorem HL {k v:Expr} {gk gv:Ev->R D} (hu:X.A.units+64<cLine) (hk:PF X k gk) (hv:PF X v gv):PF X (.Dict [some k] [v] pos) (gD1 gk gv):=by
 walk_at "u"
 exact fun pins s σ H Q I ⟨G,ρ,st,h⟩=>by
  refine Dl (by omega) hk hv pins s σ H Q I fun q o hq=>?_
  have u0:Up G H G (upd H q (DctO q o [])):=⟨fun a u y=>by rw [aK (aF y (st.sub.free hq))];exact st.sub a u y,.refl _,.into hq,fun _ _ y=>.inl y⟩
  have h:(gk ρ>>=fun k=>gv ρ>>=fun v=>ofO (d1F k v)).post (Fin G H (Rep X.K) Q) (Exx X σ G H):=h
  have st0:=st.up u0
  refine ⟨G,ρ,st0,?_⟩
  cases q1:gk ρ with
  | ok kd=>
   rw [q1] at h
   intro kv G1 H1 u1 r1
   refine ⟨G1,ρ,st0.up u1,?_⟩
   have h:(gv ρ>>=fun v=>ofO (d1F kd v)).post (Fin G H (Rep X.K) Q) (Exx X σ G H):=h
   cases q2:gv ρ with
   | ok vd=>
    rw [q2] at h
    intro vv G2 H2 u2 r2
    obtain ⟨w,e1,h⟩:=ofO.ok (show (ofO (d1F kd vd)).post (Fin G H (Rep X.K) Q) (Exx X σ G H) from h)
    unfold d1F at e1
    cases e2:se kd with
    | none=>rw [e2] at e1;cases e1
    | some n=>
     rw [e2] at e1
     cases e1
     obtain ⟨c,a,b,rfl,rfl,hc⟩:=kZ e2 r1
     have u:=u1.trans u2
     have gq:G2 q=none:=by
      cases z:G2 q with
      | none=>rfl
      | some o'=>
       rcases u.fr q o' z with y|y
       ·rw [st.sub.free hq] at y;cases y
       ·rw [aS] at y;cases y
     refine ⟨u.hh _ _ aS,c,[a,b],rfl,(hc.mono u2.gg).mono u2.sub,fun o'=>h (.ref q) (upd G2 q (DctO q o' [([a,b],c,vv)])) _ ⟨u2.sub.both,u.gg.trans (.into gq),fun x o'' y=>?_,fun x o'' y=>?_⟩ (.dct aS (.cons ((hc.mono u2.gg).mono (.into gq)) .nil) (.cons (r2.mono (.into gq)) .nil))⟩
     ·have nx:=aF y hq
      rw [aK nx]
      exact u.hh x o'' (by rw [aK nx];exact y)
     ·by_cases ex:x=q
      ·subst ex;exact .inr hq
      ·rw [aK ex] at y
       rcases u.fr x o'' y with z|z
       ·exact .inl z
       ·rw [aK ex] at z;exact .inr z
   | ex C=>rw [q2] at h;exact Exx.up (u0.trans u1) h
   | no=>rw [q2] at h;exact h.elim
  | ex C=>rw [q1] at h;exact Exx.up u0 h
  | no=>rw [q1] at h;exact h.elim
theorem xP {tp ap:Pos} (he:PF X e ga) (hbase:attributeBase e "items" X.env (eval e X.env)=eval e X.env:=by rfl) (hline:(ap.endLine==pos.line)=true:=by rfl):PIF X (.Tuple elts kt tp) (.Call (.Attribute e "items" ap) [] [] pos) (fun ρ=>ga ρ>>=xk):=by
 walk_at "u"
 exact fun pins s σ H Rr I ⟨G,ρ,st,h⟩=>by
  refine AZ he hbase hline pins s σ H Rr I (tG.intro st h fun d v G1 H1 u1 st1 r1 h1=>?_)
  cases r1 with
  | dct hh k r=>exact ⟨_,_,_,rfl,st1.sub _ _ hh,h1 _ G1 H1 (.refl st1.sub) (.dct hh k r)⟩
  | _=>exact h1.elim
end
section
theorem Bx {a:Expr} {ga:Ev->R D} {fn:Str} {fp kp:Pos} (hc:X.calm=true) (hg:Gl X "min") (hm:X.mg "min"=none) (c:Callee X.prog X.w X.K X.mg X.base fn k 1 g) (hr:Room k X.A.in1) (ha:PF X a ga) (hgf:Gl X fn:=by rfl) (hdb:(fn==("__debug__":Str))=false:=by decide)
 (hs:starEach [a] X.env=(false,eval a X.env)::starEach [] X.env:=by rfl)
 (hall:(backToKw pos (keywordEach [⟨some "key",.Name fn fp,kp⟩] X.env)).all (·.1.isSome)=true:=by rfl) (hks:(backToKw pos (keywordEach [⟨some "key",.Name fn fp,kp⟩] X.env)).filterMap (·.1)=[("key":Str)]:=by rfl)
 (hpl:((backTo pos (starEach [a] X.env)).any (·.1) || (backToKw pos (keywordEach [⟨some "key",.Name fn fp,kp⟩] X.env)).any (·.1.isNone))=false:=by rfl):PF X (.Call (.Name "min" p) [a] [⟨some "key",.Name fn fp,kp⟩] pos) (sL ga g):=by
 walk_at "u"
 exact fun pins s σ H Q I ⟨G,ρ,st,h⟩=>by
  obtain ⟨f,fd,ps,F,hmf,hkp,hb,hl1⟩:=c.ex
  have ta:A7 (tF X ga) Jf σ H (fun vs H1=>∃ v,vs=[v]/\∃ G1 d,Up G H G1 H1/\Rep X.K G1 v d/\(match d with|.lst _ xs=>oX (fun d=>g [d]) xs|_=>.no:R D).post (Fin G1 H1 (Rep X.K) Q) (Exx X σ G1 H1)):=
   tG.intro st h fun d v G1 H1 u1 st1 r1 h1=>⟨v,rfl,G1,d,u1,r1,h1⟩
  refine wpAny_Call_Name_kw (lK I hg hm PyProof.Rows.Boot.«min» ?_ (by decide) (by decide))
  refine PySem.W.callWith_of (P:=fun _=>True) hpl (fun h _=>by first|exact ⟨_,.inl rfl,PySem.W.Looks.of_pure rfl⟩|exact ⟨_,.inr (.inl rfl),PySem.W.Looks.of_pure rfl⟩|exact ⟨_,.inr (.inr rfl),PySem.W.Looks.of_pure rfl⟩) (evalArgs_kw2 hall (thn ((fN ha lC hs) pos pins s σ H _ I ta) fun us s1 ⟨vs,H1,I1,r1,q1⟩=>?_) hs)
  obtain ⟨v,hv,G1,d,u1,rd,h1⟩:∃ v,vs=[v]/\∃ G1 d,Up G H G1 H1/\Rep X.K G1 v d/\(match d with|.lst _ xs=>oX (fun d=>g [d]) xs|_=>.no:R D).post (Fin G1 H1 (Rep X.K) Q) (Exx X σ G1 H1):=q1
  subst hv
  obtain ⟨u,rfl,rv⟩:=r1.one
  show wpAny _ _ (evalAll ((do let v <- eval (.Name fn fp) X.env;standAt pos;pure v)::(backToKw pos (keywordEach [] X.env)).map (·.2))) _ _ s1
  refine wpAny_evalAll_cons (wpAny_bind (thn (tM (v:=.ref f) hgf hmf rfl hdb pins s1 σ H1 (fun w H2=>w=.ref f/\H2=H1) I1 ⟨rfl,rfl⟩) fun fv s2 ⟨w,H2,I2,rw2,ew,eh⟩=>wpAny_bind (wpAny_standAt (wpAny_pure (wpAny_evalAll_nil ⟨trivial,?_⟩)))))
  subst ew eh
  cases rw2
  rw [hks]
  have fin:∀ {l:Addr} {v0:V} {vr:List V} {x0:D} {ds:List D},u=.ref l->SqL X.K G1 l (v0::vr)->Rep X.K G1 v0 x0->Reps X.K G1 vr ds->(oX (fun d=>g [d]) (x0::ds)).post (Fin G1 H2 (Rep X.K) Q) (Exx X σ G1 H2)->
    wpAny (model X.prog X.w) X.A (call (.builtin "min") [u] [(Str.ofString "key",.ref f)]) (EP X pins σ Q) X.xe s2:=by
   intro l v0 vr x0 ds eu hq r0 rr h0
   subst eu
   rcases xL (key:=fun d=>g [d]) (x:=x0) (xs:=ds) with ⟨kb,dd,eg,em,e1⟩|e1
   ·rw [e1] at h0
    exact yQ F hr (I2.ok.hd hc) hb hl1 I2 u1.sub hq r0 rr eg em fun v H' sm rp=>h0 v G1 H' ⟨u1.sub.trans sm,.refl _,sm,fun a o h=>.inl h⟩ rp
   ·rw [e1] at h0;exact h0.elim
  cases rd with
  | lst hq t=>
   cases rv
   cases t with
   | nil=>exact h1.elim
   | cons r0 t=>exact fin rfl (.of hq) r0 t h1
  | fls hq t=>
   cases rv
   cases t with
   | nil=>exact h1.elim
   | cons r0 t=>exact fin rfl hq r0 t h1
  | _=>exact h1.elim
theorem aZ {c:Addr} (hg:Gl X x) (hm:X.mg x=some (.ref c)) (hk:lc X.K c d) (hd:(x==("__debug__":Str))=false:=by decide):PF X (.Name x pos) (fun _=>.ok d):=by
 walk_at "u"
 exact fun pins s σ H Q I ⟨G,ρ,st,q⟩=>
  tM (v:=.ref c) hg hm rfl hd pins s σ H Q I (q _ G H (.refl st.sub) (hk G))
theorem Eh {a b:Expr} {ga:Ev->R D} (h:PF X (.Subscript a b pos) ga):PB X (.Subscript a b pos) (az jx ga):=by
 with_unfolding_all exact oh h
end
section
theorem Fr {e:Expr} {ga:Ev->R D} (i:Nat) {ap cp:Pos} (he:PF X e ga) (hi:X.N[i]?=some x:=by rfl) (hv:Vis X.env.scope x:=by first|exact Or.inl rfl|exact Or.inr (Or.inl rfl))
 (hd:(x==("__debug__":Str))=false:=by decide) (hcd:(x==("__classdict__":Str))=false:=by decide) (hs1:starEach [e] X.env=(false,eval e X.env)::starEach [] X.env:=by rfl)
 (hbase:attributeBase (.Name x p) "extend" X.env (eval (.Name x p) X.env)=eval (.Name x p) X.env:=by rfl)
 (hfew:((backTo cp (starEach [e] X.env)).all (fun x=>!x.1) && (backToKw cp (keywordEach [] X.env)).all (fun x=>x.1.isSome)
 && decide ([e].length+([]:List Keyword).length+(if ([]:List Keyword).isEmpty then 0 else 1)<30))=true:=by rfl)
 (hline:(ap.endLine==cp.line)=true:=by rfl)
 (hs:swapsWith (.Call (.Attribute (.Name x p) "extend" ap) [e] [] cp) none pos.line X.env=pure false:=by rfl):PSF X (.Expr (.Call (.Attribute (.Name x p) "extend" ap) [e] [] cp) pos) (D1 i ga):=by
 walk_at "u"
 exact fun G₀ H₀ pins s σ H D I h=>by
  refine pY (Ch PySem.F.plainAttrs_list PySem.F.slot_list_extend PySem.F.type_list_extend Ca (ip hi hv hd hcd) (fN he lC hs1) hbase hfew hline hs1 rfl) hs pins s σ H D I ?_
  obtain ⟨G,ρ,sr,h⟩:=h
  have h:nh X G₀ H₀ D ((ownAt ρ i).out ρ fun ds=>(ga ρ).out ρ fun d=>(asT d).out ρ fun es=>if ds.length+es.length<=sizeLine then .nx (ρ.set i (some (.own (ds++es)))) else .no):=h
  obtain ⟨ds,e1,h⟩:=ownAt.ok h
  obtain ⟨l,vs,h1,h2,h3,h4,h5⟩:=sr.own i ds e1
  refine ⟨.ref l,h1,.inl ⟨rfl,vs,.of h2⟩,G,ρ,sr.e,?_⟩
  cases q:ga ρ with
  | ok d=>
   rw [q] at h
   simp only [R.out] at h
   intro v G' H' u r
   cases r with
   | tup hb t=>
    rename_i b ws es
    have h:nh X G₀ H₀ D (if ds.length+es.length<=sizeLine then .nx (ρ.set i (some (.own (ds++es)))) else .no):=h
    by_cases hz:ds.length+es.length<=sizeLine
    ·rw [if_pos hz] at h
     refine ⟨l,b,vs,ws,rfl,rfl,u.hh _ _ h2,hb.mono u.sub,by rw [h5.length,t.length];exact hz,h _ G' _ ?_⟩
     exact (sr.ups u).mut e1 h1 ((h5.mono u.gg).append t)
    ·rw [if_neg hz] at h;exact h.elim
   | _=>exact h.elim
  | ex C=>rw [q] at h;exact Exx.of sr h
  | no=>rw [q] at h;exact h
end
section
variable {X:Cx} {e t:Expr} {es:List Expr} {ga:Ev->R D} {pos:Pos} {asg:D->Ev->R Ev} {as:List (D->Ev->R Ev)}
theorem B1 {pt:Pos} (he:PF X e ga) (hc:X.calm=true) (h:GG X es as) (hn:(assignEach es X.env).length=as.length:=by rfl) (hst:(assignEach es X.env).findIdx? (·.1)=none:=by rfl)
 (hs:swapsWithSole [.Tuple es k pt] e pos.line X.env=pure false:=by rfl) (hw:swappedStores [.Tuple es k pt] e X.env=pure none:=by rfl) (h1:(assignEach [.Tuple es k pt] X.env).map (·.2)=[assign (.Tuple es k pt) X.env]:=by rfl):PSF X (.Assign [.Tuple es k pt] e pos) (Ix (sh as) ga):=by
 with_unfolding_all exact nL he (ut hc h hn hst) hs hw (wQ as) h1
end
section
variable {ρ:Ev} {g g1 g2':Ev->O} {gt gu:Ev->R Bool} {ga gb gc:Ev->R D} {gl:Ev->R (List D)} {go gp:Ev->R (Option Int)} {i n:Nat} {f f':D->D->Option D} {asg:D->Ev->R Ev} {C:Addr}
theorem IB:ay g1 g2' ρ=(g1 ρ).seq g2':=rfl
theorem Kv:oIf gt g1 g2' ρ=(gt ρ).out ρ fun k=>if k=true then g1 ρ else g2' ρ:=rfl
theorem Ij:fw i ga ρ=(ga ρ).out ρ fun d=>.nx (ρ.set i (some (.val d))):=rfl
theorem Hw:cj ga ρ=(ga ρ).out ρ .rt:=rfl
theorem KF:oNx ρ=.nx ρ:=rfl
theorem Ja:Gs i gl ρ=(gl ρ).out ρ fun ds=>.nx (ρ.set i (some (.own ds))):=rfl
theorem F0:pP ga ρ=(ga ρ).out ρ fun _=>.nx ρ:=rfl
theorem Iz:zr asg gl g ρ=(gl ρ).out ρ fun items=>dw asg g items ρ:=rfl
theorem BR:iY C gl ρ=(gl ρ).out ρ fun _=>.ex C ρ:=rfl
theorem IW:Ix asg ga ρ=(ga ρ).out ρ fun d=>(asg d ρ).out ρ .nx:=rfl
theorem IM:Et i g ρ=g (frz i ρ):=rfl
theorem GE {α β:Type} {h:α->R β} {gx:Ev->R α}:az h gx ρ=gx ρ>>=h:=rfl
theorem K4 {h:List D->Option D}:gOf h gl ρ=gl ρ>>=fun ds=>ofO (h ds):=rfl
theorem Bm:ac ga gl ρ=ga ρ>>=fun x=>gl ρ>>=fun xs=>.ok (x::xs):=rfl
theorem CK:bL gl ρ=gl ρ>>=fun ds=>.ok (.lst false ds):=rfl
theorem Jo:qI gl ρ=gl ρ>>=fun ds=>if ds.length<=sizeLine then .ok ds else .no:=rfl
theorem Kq:gB2 f ga gb ρ=g2 f ga gb ρ>>=asB:=rfl
theorem JV:gB3 f f' ga gb gc ρ=g3 f f' ga gb gc ρ>>=asB:=rfl
theorem La:gBn gt ρ=gt ρ>>=fun k=>.ok (!k):=rfl
theorem EJ:iK ga ρ=ga ρ>>=fun x=>asI x>>=fun i=>.ok (some i):=rfl
theorem FH {T:String} {h:D->List D->Option D}:we T h ga gl ρ=ga ρ>>=fun x=>if qF T x=true then gl ρ>>=fun ds=>ofO (h x ds) else .no:=rfl
theorem KI:g2 f ga gb ρ=ga ρ>>=fun x=>gb ρ>>=fun y=>ofO (f x y):=rfl
theorem IG:pi ga gb ρ=ga ρ>>=fun x=>asB x>>=fun k=>if k=true then gb ρ else .ok (.bl false):=rfl
theorem Kk:gOr ga gb ρ=ga ρ>>=fun x=>asB x>>=fun k=>if k=true then .ok (.bl true) else gb ρ:=rfl
theorem Hc:HM ga ρ=ga ρ>>=fun x=>asB x>>=fun k=>.ok (.bl (!k)):=rfl
theorem FP:GV gt gu ρ=gt ρ>>=fun k=>if k=true then gu ρ else .ok false:=rfl
theorem HA:sN gt gu ρ=gt ρ>>=fun k=>if k=true then .ok true else gu ρ:=rfl
theorem IJ:gIf gt ga gb ρ=gt ρ>>=fun k=>if k=true then ga ρ else gb ρ:=rfl
theorem JW:gSl ga go gp ρ=ga ρ>>=fun x=>go ρ>>=fun l=>gp ρ>>=fun u=>ofO (CA l u x):=rfl
theorem FS:jl gl ix gt ga ρ=gl ρ>>=fun items=>fZ gt ga items (jI ix ρ)>>=fun ds=>if ds.length<=sizeLine then .ok ds else .no:=rfl
theorem xn {h:List D->R D}:aG 1 h (ac ga fun _=>.ok []) ρ=ga ρ>>=fun x=>h [x]:=Bw
theorem B5 {h:List D->R D}:aG 2 h (ac ga (ac gb fun _=>.ok [])) ρ=ga ρ>>=fun x=>gb ρ>>=fun y=>h [x,y]:=yV
theorem Di {h:List D->R D}:aG 3 h (ac ga (ac gb (ac gc fun _=>.ok []))) ρ=ga ρ>>=fun x=>gb ρ>>=fun y=>gc ρ>>=fun z=>h [x,y,z]:=Bz
theorem DY {h:List D->R D} {gd:Ev->R D}:aG 4 h (ac ga (ac gb (ac gc (ac gd fun _=>.ok [])))) ρ=ga ρ>>=fun x=>gb ρ>>=fun y=>gc ρ>>=fun z=>gd ρ>>=fun u=>h [x,y,z,u]:=by
 unfold aG
 simp only [Bm]
 cases ga ρ <;> try rfl
 simp only [R.ok_bind]
 cases gb ρ <;> try rfl
 simp only [R.ok_bind]
 cases gc ρ <;> try rfl
 simp only [R.ok_bind]
 cases gd ρ <;> rfl
end
theorem Hk (i:Nat) (ga:Ev->R D) (ρ:Ev):JY i ga ρ=(ownAt ρ i).out ρ fun ds=>(ga ρ).out ρ fun d=>(asL d).out ρ fun es=>if ds.length+es.length<=sizeLine then .nx (ρ.set i (some (.own (ds++es)))) else .no:=rfl
theorem Hd (i:Nat) (ga:Ev->R D) (ρ:Ev):GN i ga ρ=(ownAt ρ i).out ρ fun ds=>(ga ρ).out ρ fun d=>if ds.length<sizeLine then .nx (ρ.set i (some (.own (ds++[d])))) else .no:=rfl
theorem I9 (i j:Nat) (gl:Ev->R (List D)) (ρ:Ev):GC i j gl ρ=(gl ρ).out ρ fun ds=>(pS [i,j] ds ρ).out ρ .nx:=rfl
theorem K8 (ds:List D) (ρ:Ev):ownAt (some (.own ds)::ρ) 0=.ok ds:=rfl
theorem Ke (a0:Option Sl) (ds:List D) (ρ:Ev):ownAt (a0::some (.own ds)::ρ) 1=.ok ds:=rfl
theorem Kp (a0 a1:Option Sl) (ds:List D) (ρ:Ev):ownAt (a0::a1::some (.own ds)::ρ) 2=.ok ds:=rfl
theorem asl (ds:List D):asL (.lst false ds)=.ok ds:=rfl
theorem Kt (a0:Option Sl) (ds:List D) (ρ:Ev):frz 1 (a0::some (.own ds)::ρ)=a0::some (.val (.lst false ds))::ρ:=rfl
noncomputable def g3k (f':D->D->Option D) (r:R D) (y:D):D->R D
 | .bl true=>r>>=fun w=>ofO (f' y w)
 | .bl false=>.ok (.bl false)
 | _=>.no
theorem Kz (f f':D->D->Option D) (ga gb gc:Ev->R D) (ρ:Ev):g3 f f' ga gb gc ρ=ga ρ>>=fun x=>gb ρ>>=fun y=>ofO (f x y)>>=g3k f' (gc ρ) y:=rfl
theorem Hf (f':D->D->Option D) (r:R D) (y:D) (b:Bool):g3k f' r y (.bl b)=if b=true then (r>>=fun w=>ofO (f' y w)) else .ok (.bl false):=by cases b <;> rfl
theorem sv2 (i j:Nat) (x y:D) (ρ:Ev):pS [i,j] [x,y] ρ=.ok ((ρ.set i (some (.val x))).set j (some (.val y))):=rfl
theorem KT (a0 a1 a2 a3:Option Sl) (ds:List D) (ρ:Ev):frz 4 (a0::a1::a2::a3::some (.own ds)::ρ)=a0::a1::a2::a3::some (.val (.lst false ds))::ρ:=rfl
theorem Kr (ρ:Ev) (k:Ev->O):(O.nx ρ).seq k=k ρ:=rfl
theorem KY (d:D) (k:Ev->O):(O.rt d).seq k=.rt d:=rfl
theorem Kb (C:Addr) (ρ:Ev) (k:Ev->O):(O.ex C ρ).seq k=.ex C ρ:=rfl
theorem KO (k:Ev->O):(O.no).seq k=.no:=rfl
theorem Kh (d:D):au (.rt d)=.ok d:=rfl
theorem Ki (ρ:Ev):au (.nx ρ)=.ok .non:=rfl
theorem KM (C:Addr) (ρ:Ev):au (.ex C ρ)=.ex C:=rfl
theorem KA (k:Bool):asB (.bl k)=.ok k:=rfl
theorem tJ (i:Int):asI (.int i)=.ok i:=rfl
theorem Ks (k:Bool):jx (.bl k)=.ok k:=rfl
theorem rd7 (a0 a1 a2 a3 a4 a5 a6:Option Sl) (d:D) (ρ:Ev):rdV (a0::a1::a2::a3::a4::a5::a6::some (.val d)::ρ) 7=.ok d:=rfl
theorem rd8 (a0 a1 a2 a3 a4 a5 a6 a7:Option Sl) (d:D) (ρ:Ev):rdV (a0::a1::a2::a3::a4::a5::a6::a7::some (.val d)::ρ) 8=.ok d:=rfl
theorem rd9 (a0 a1 a2 a3 a4 a5 a6 a7 a8:Option Sl) (d:D) (ρ:Ev):rdV (a0::a1::a2::a3::a4::a5::a6::a7::a8::some (.val d)::ρ) 9=.ok d:=rfl
theorem Lf (a0 a1 a2 a3 a4 a5 a6 a7 a8 a9:Option Sl) (d:D) (ρ:Ev):rdV (a0::a1::a2::a3::a4::a5::a6::a7::a8::a9::some (.val d)::ρ) 10=.ok d:=rfl
theorem KZ (a0 a1 a2 a3 a4 a5 a6 a7 a8 a9 a10:Option Sl) (d:D) (ρ:Ev):rdV (a0::a1::a2::a3::a4::a5::a6::a7::a8::a9::a10::some (.val d)::ρ) 11=.ok d:=rfl
theorem KB (a0 a1 a2 a3 a4 a5 a6 a7 a8 a9 a10 a11:Option Sl) (d:D) (ρ:Ev):rdV (a0::a1::a2::a3::a4::a5::a6::a7::a8::a9::a10::a11::some (.val d)::ρ) 12=.ok d:=rfl
section
variable (i j:Int)
theorem Il:ci (.int i) (.int j)=some (.int (i+j)):=by simp only [ci]
theorem IZ:yv (.int i) (.int j)=some (.int (i - j)):=by simp only [yv]
theorem J6:leD (.int i) (.int j)=some (.bl (decide (i<=j))):=by simp only [leD]
theorem JZ:ltD (.int i) (.int j)=some (.bl (decide (i<j))):=by simp only [ltD]
theorem J1:gtD (.int i) (.int j)=some (.bl (decide (j<i))):=by simp only [gtD]
theorem Kx:geD (.int i) (.int j)=some (.bl (decide (j<=i))):=by simp only [geD]
theorem J5:eqF (.int i) (.int j)=some (.bl (i==j)):=by simp only [eqF,eqD,Option.map_some]
theorem Jq:neF (.int i) (.int j)=some (.bl (!(i==j))):=by simp only [neF,eqD,Option.map_some]
end
theorem Gq {i j:Int} (h : -(2 ^ 64)<i/\i<2 ^ 64):jB (.int i) (.int j)=some (.int (i * j)):=by simp only [jB];rw [if_pos (Or.inl h)]
theorem xm {x y:List Nat} (h:x.length+y.length<=sizeLine):ci (.str x) (.str y)=some (.str (x++y)):=by simp only [ci];rw [if_pos h]
theorem FW {x y:List D} (h:x.length+y.length<=sizeLine):ci (.tup x) (.tup y)=some (.tup (x++y)):=by simp only [ci];rw [if_pos h]
theorem Jw (x y:List Nat):eqF (.str x) (.str y)=some (.bl (x==y)):=by simp only [eqF,eqD,Option.map_some]
theorem K1 (x y:List Nat):neF (.str x) (.str y)=some (.bl (!(x==y))):=by simp only [neF,eqD,Option.map_some]
theorem vh {α:Type} (n:Nat) (x:α):(List.replicate n [x]).flatten=List.replicate n x:=by
 induction n with
 | zero=>rfl
 | succ n ih=>rw [List.replicate_succ,List.flatten_cons,ih];rfl
theorem bJ:(1000:Nat)<=sizeLine:=by decide
theorem Jd {c n:Nat} (h:n<=1000):jB (.str [c]) (.int (n:Int))=some (.str (List.replicate n c)):=by
 have:=bJ
 simp only [jB]
 rw [if_pos (by refine ⟨by omega,by omega,?_⟩;simp;omega),Int.toNat_natCast,vh]
theorem H9 {c:D} {n:Nat} (h:n<=1000):jB (.lst false [c]) (.int (n:Int))=some (.lst false (List.replicate n c)):=by
 have:=bJ
 simp only [jB]
 rw [if_pos (by refine ⟨by omega,by omega,?_⟩;simp;omega),Int.toNat_natCast,vh]
theorem Ju {xs:List D} (h:xs[k]?=some d):ixD (.tup xs) (.int (k:Int))=some d:=by simp only [ixD];exact tB h
theorem JR {xs:List D} (h:xs[k]?=some d):ixD (.lst fz xs) (.int (k:Int))=some d:=by simp only [ixD];exact tB h
theorem JH {x:List Nat} {c:Nat} (h:x[k]?=some c):ixD (.str x) (.int (k:Int))=some (.str [c]):=by simp only [ixD];rw [tB h];rfl
theorem wa {α:Type} (xs:List α) (k:Nat):jz xs none (some (k:Int))=xs.take k:=by
 unfold jz
 rw [HT.sIx_none,HT.sIx_nat,List.drop_zero,Nat.sub_zero]
 by_cases h:k<=xs.length
 ·rw [Nat.min_eq_left h]
 ·rw [Nat.min_eq_right (by omega),List.take_length,List.take_of_length_le (by omega)]
theorem ue {α:Type} (xs:List α) (k:Nat):jz xs (some (k:Int)) none=xs.drop k:=by
 unfold jz
 rw [HT.sIx_none,HT.sIx_nat]
 by_cases h:k<=xs.length
 ·rw [Nat.min_eq_left h,List.take_of_length_le (by simp)]
 ·rw [Nat.min_eq_right (by omega),List.drop_length,List.take_nil,List.drop_of_length_le (by omega)]
theorem Iw (lo hi:Option Int) (x:List Nat):CA lo hi (.str x)=some (.str (jz x lo hi)):=rfl
theorem HZ (lo hi:Option Int) (x:List D):CA lo hi (.tup x)=some (.tup (jz x lo hi)):=rfl
theorem IH (fz:Bool) (x:List D):eX [.lst fz x]=some (.int x.length):=rfl
theorem C6 (x:List D):eX [.tup x]=some (.int x.length):=rfl
theorem Jk (x:List Nat):eX [.str x]=some (.int x.length):=rfl
theorem vp {n:Nat} (h:n<=1000):eO [.int (n:Int)]=.ok ((List.range n).map fun (i:Nat)=>D.int (i:Int)):=by
 have e:eO [.int (n:Int)]=if -(2 ^ 62)<=(n:Int)/\(n:Int)<2 ^ 62 then .ok ((List.range (n:Int).toNat).map fun i=>D.int (0+(i:Nat))) else .no:=by simp only [eO]
 rw [e,if_pos (by constructor <;> omega),Int.toNat_natCast]
 simp only [Int.zero_add]
theorem Kl {α:Type} (a v:α) (l:List α):(a::l).set 0 v=v::l:=rfl
theorem A0 (asg:D->Ev->R Ev) (g:Ev->O) (ρ:Ev):dw asg g [] ρ=.nx ρ:=rfl
theorem gT {g:Ev->O} {ρ1 ρ2:Ev} (h1:asg d ρ=.ok ρ1) (h2:g ρ1=.nx ρ2):dw asg g (d::ds) ρ=dw asg g ds ρ2:=by
 rw [dw,h1]
 show (match g ρ1 with
  | .nx ρ2=>dw asg g ds ρ2
  | .ct ρ2=>dw asg g ds ρ2
  | .bk ρ2=>O.nx ρ2
  | .rt d=>O.rt d
  | .re d ρ2=>.re d ρ2
  | .ex C ρ2=>O.ex C ρ2
  | .no=>O.no)=_
 rw [h2]
theorem xJ {e:Expr} (hg:Gl X "tuple") (hm:X.mg "tuple"=none) (ha:PFA X [e] gl) (he:starEach [e] X.env=(false,eval e X.env)::starEach [] X.env:=by rfl) :
  PF X (.Call (.Name "tuple" p) [e] [] pos) (gOf rf gl):=xo ph (AN _) hg hm PyProof.Rows.Boot.«tuple» ha (by decide) (by decide) he rfl
theorem Hx {a b:Expr} {ga:Ev->R D} (ha:PF X a ga) (hb:PF X b gb):PB X (.Compare a [.GtE] [b] pos) (gB2 geD ga gb):=Jg ha hb
noncomputable def gJ:D->List D->Option D
 | .str x,[.int i]=>if -1000<=i/\i<=1000 then some (.str (x++List.replicate (i.toNat - x.length) 32)) else none
 | _,_=>none
noncomputable def Bg:V->List V->Hp->VK->Prop:=fun x vs H Q=>∃ (y:Str) (i:Int),x=.str y/\vs=[.int i]/\-1000<=i/\i<=1000/\Q (.str (Txt.ljust y i)) H
theorem zF:MtR X "str.ljust" Bg:=by
 intro pins s σ H x xs v us Q I rx rv ⟨y,i,ex,exs,h1,h2,q⟩
 subst ex exs
 obtain ⟨t,rfl⟩:=rx
 obtain ⟨u,rfl,r1⟩:=rv.one
 obtain ⟨t',rfl⟩:=r1
 exact SC.ljust (padOk_of (by omega) (by omega)) (fun t'' k=>⟨.str _,H,I.tok _,⟨_,rfl⟩,q⟩)
theorem qA (y:Str) (i:Int):(Txt.ljust y i).cps.toList=y.cps.toList++List.replicate (i.toNat - y.cps.toList.length) 32:=by
 unfold Txt.ljust
 have hl:y.length=y.cps.toList.length:=by simp [Str.length]
 split
 ·rename_i h
  have:i.toNat - y.cps.toList.length=0:=by omega
  rw [this];simp
 ·simp [Builtin.Str.padded,Str.length]
theorem Ah (K:PySem.W.Frag):Js K "str" Bg gJ:=by
 intro G H x xs dx ds d Q s rx rs e q
 unfold gJ at e
 split at e
 ·split at e
  ·rename_i hi
   cases e
   obtain ⟨v,rfl,r1⟩:=rs.one
   obtain ⟨y,rfl,ey,hy⟩:=rx.str_inv
   obtain rfl:=r1.int_inv
   refine ⟨y,_,rfl,rfl,hi.1,hi.2,q _ G H (.refl s) (.strL (by rw [qA,ey]) ?_)⟩
   have h1:y.length=y.cps.toList.length:=by simp [Str.length]
   have:=bJ
   rw [h1,ey] at hy
   simp;omega
  ·cases e
 ·cases e
theorem xS {o e:Expr} {ga:Ev->R D} {ap cp:Pos} (ho:PF X o ga) (ha:PFA X [e] gl) (hbase:attributeBase o "ljust" X.env (eval o X.env)=eval o X.env:=by rfl)
 (hfew:((backTo cp (starEach [e] X.env)).all (fun x=>!x.1) && (backToKw cp (keywordEach [] X.env)).all (fun x=>x.1.isSome)
 && decide ([e].length+([]:List Keyword).length+(if ([]:List Keyword).isEmpty then 0 else 1)<30))=true:=by rfl)
 (hline:(ap.endLine==cp.line)=true:=by rfl) (hs:starEach [e] X.env=(false,eval e X.env)::starEach [] X.env:=by rfl) :
  PF X (.Call (.Attribute o "ljust" ap) [e] [] cp) (we "str" gJ ga gl):=DJ PySem.F.plainAttrs_str PySem.F.slot_str_ljust PySem.F.type_str_ljust zF (Ah _) ho ha hbase hfew hline hs rfl
theorem KW (a0 a1 a2 a3 a4 a5 a6 a7 a8 a9 a10 a11 a12:Option Sl) (d:D) (ρ:Ev):rdV (a0::a1::a2::a3::a4::a5::a6::a7::a8::a9::a10::a11::a12::some (.val d)::ρ) 13=.ok d:=rfl
theorem Kc (a0 a1 a2 a3 a4 a5 a6 a7 a8 a9 a10 a11 a12 a13:Option Sl) (d:D) (ρ:Ev):rdV (a0::a1::a2::a3::a4::a5::a6::a7::a8::a9::a10::a11::a12::a13::some (.val d)::ρ) 14=.ok d:=rfl
theorem Jm (i:Nat) (gt:Ev->R Bool) (g1 g2:Ev->O) (ρ:Ev):Lh i gt g1 g2 ρ=(gh (gt (frz i ρ))).out ρ fun k=>if k=true then g1 ρ else g2 ρ:=rfl
theorem Gp (j i:Nat) (ga:Ev->R D) (ρ:Ev):DT j i ga ρ=(gh (ga (frz j ρ))).out ρ fun d=>if fl 10 d=true then .nx (ρ.set i (some (.val d))) else .no:=rfl
theorem E3 (j i:Nat) (ga:Ev->R D) (ρ:Ev):GW j i ga ρ=(ownAt ρ i).out ρ fun ds=>(gh (ga (frz j ρ))).out ρ fun d=>if ds.length<sizeLine/\fl 10 d=true then .nx (ρ.set i (some (.own (ds++[d])))) else .no:=rfl
noncomputable def Eu (i:Nat) (ρ:Ev) (ds:List D) (d:D):Option Nat->O
 | some n=>if fl 10 d=true then .nx (ρ.set i (some (.own (ds.set n d)))) else .no
 | none=>.no
theorem FL (i:Nat) (gk ga:Ev->R D) (ρ:Ev):CP i gk ga ρ=(ownAt ρ i).out ρ fun ds=>(gh (ga (frz i ρ))).out ρ fun d=>(gh (gk (frz i ρ)>>=asI)).out ρ fun k=>Eu i ρ ds d (ixN ds.length k):=rfl
theorem wz (i:Nat) (ρ:Ev) (ds:List D) (d:D) (n:Nat):Eu i ρ ds d (some n)=if fl 10 d=true then .nx (ρ.set i (some (.own (ds.set n d)))) else .no:=rfl
theorem Ej (gl:Ev->R (List D)) (ρ:Ev):CC gl ρ=gl ρ>>=BV:=rfl
theorem HH (xs:List D):BV [.tup xs]=.ok xs:=rfl
theorem C5 (ga gb:Ev->R D) (ρ:Ev):EG ga gb ρ=ga ρ>>=fun x=>gb ρ>>=fun c=>BO x c:=rfl
theorem DI (n:Nat) (asg:D->Ev->R Ev) (gl:Ev->R (List D)) (ix:List Nat) (gt:Ev->R Bool) (ga:Ev->R D) (ρ:Ev):Ey n asg gl ix gt ga ρ=gl ρ>>=fun items=>gD asg gt ga items (iq n ix ρ)>>=fun ds=>if ds.length<=sizeLine then .ok ds else .no:=rfl
theorem Gf (i j:Nat) (ga:Ev->R D) (gl:Ev->R (List D)) (ρ:Ev):HU i j ga gl ρ=(ga ρ).out ρ fun d=>(gl ρ).out ρ fun ds=>.nx ((ρ.set i (some (.val d))).set j (some (.own ds))):=rfl
theorem Hy (f:Bool) (lo hi:Option Int) (x:List D):CA lo hi (.lst f x)=some (.lst false (jz x lo hi)):=rfl
theorem Hv (ga gs:Ev->R D) (ρ:Ev):KQ ga gs ρ=ga ρ>>=fun x=>gs ρ>>=fun k=>GQ x k:=rfl
theorem Ie (x:List Nat):GQ (.str x) (.int (-1))=.ok (.str x.reverse):=rfl
theorem IS (f:Bool) (x:List D):GQ (.lst f x) (.int (-1))=.ok (.lst false x.reverse):=rfl
theorem IL (f:Bool) (xs:List D):BV [.lst f xs]=.ok xs:=rfl
noncomputable def IV (i:Nat):O->O
 | .nx ρ=>.nx (ρ.set i none)
 | .rt d=>.rt d
 | _=>.no
noncomputable def GD (gs:Ev->O) (f:Addr->Option Bool) (i:Nat):O->O
 | .ex C ρ=>(match f C with
  | some true=>IV i (gs (ρ.set i (some (.val (.exc C)))))
  | _=>.no)
 | o=>o
theorem Ik (gb gs:Ev->O) (f:Addr->Option Bool) (i:Nat) (ρ:Ev):Jt gb gs f i ρ=GD gs f i (gb ρ):=by
 unfold Jt GD
 cases gb ρ <;> rfl
theorem B8 (gs:Ev->O) (f:Addr->Option Bool) (i:Nat) (ρ:Ev):GD gs f i (.nx ρ)=.nx ρ:=rfl
theorem Dg {gs:Ev->O} {f:Addr->Option Bool} (h:f C=some true):GD gs f i (.ex C ρ)=IV i (gs (ρ.set i (some (.val (.exc C))))):=by
 simp only [GD,h]
theorem DN (i:Nat) (ρ:Ev):IV i (.nx ρ)=.nx (ρ.set i none):=rfl
noncomputable def Fv (gs:List (Ev->R D)) (out:List Nat) (ρ:Ev):D->R D
 | .str x=>if (out++x).length<=sizeLine then uf gs (out++x) ρ else .no
 | _=>.no
theorem EZ (gs:List (Ev->R D)) (ρ:Ev):HI gs ρ=uf gs [] ρ:=rfl
theorem Cl (out:List Nat) (ρ:Ev):uf [] out ρ=.ok (.str out):=rfl
theorem DV (g:Ev->R D) (gs:List (Ev->R D)) (out:List Nat) (ρ:Ev):uf (g::gs) out ρ=g ρ>>=Fv gs out ρ:=rfl
theorem Cd (gs:List (Ev->R D)) (out:List Nat) (ρ:Ev) (x:List Nat):Fv gs out ρ (.str x)=if (out++x).length<=sizeLine then uf gs (out++x) ρ else .no:=rfl
theorem G8 (x:List Nat):Ka (.str x)=.ok (.str x):=rfl
theorem Gg (j i:Nat) (gl:Ev->R (List D)) (ρ:Ev):HF j i gl ρ=(gh (gl (frz j ρ))).out ρ fun ds=>if ds.all (fl 10)=true then .nx (ρ.set i (some (.own ds))) else .no:=rfl
theorem HP (n:Nat) (gt:Ev->R Bool) (g:Ev->O) (ρ:Ev):Gj n gt g ρ=vx gt g n ρ:=rfl
theorem BX (gi:Ev->R (List D)) (ix:List Nat) (gt:Ev->R Bool) (ge:Ev->R D) (ρ:Ev):GA gi ix gt ge ρ=gi ρ>>=fun items=>if items.length<=sizeLine then vo (jA 0) gt ge items (jI ix ρ) else .no:=rfl
theorem CM (C:Addr) (i k:Nat) (gb:Ev->R D) (ρ:Ev):E0 C i k gb ρ=(Bf C ρ i>>=fun fs=>BQ fs k>>=fun ds=>gb ρ>>=fun d=>ofO (ixD (.lst false ds) d)):=rfl
theorem AF (C:Addr) (i k:Nat) (ρ:Ev):B9 C i k ρ=(Bf C ρ i>>=fun fs=>BQ fs k>>=fun ds=>.ok (.int ds.length)):=rfl
theorem D9 (C:Addr) (i k:Nat) (ga:Ev->R D) (ρ:Ev):HR C i k ga ρ=(wq C ρ i).out ρ fun o=>(BQ o.2 k).out ρ fun ds=>(ga ρ).out ρ fun d=>if ds.length<sizeLine then .nx (ρ.set i (some (.obj true C o.1 (sf k (.own (ds++[d])) o.2)))) else .no:=rfl
theorem Ed (C:Addr) (i k:Nat) (gl:Ev->R (List D)) (ρ:Ev):Jl C i k gl ρ=(wq C ρ i).out ρ fun o=>(gl ρ).out ρ fun ds=>if o.2.length<900 then .nx (ρ.set i (some (.obj true C o.1 (sf k (.own ds) o.2)))) else .no:=rfl
theorem Ez (ga:Ev->R D) (ρ:Ev):HV ga ρ=(ga ρ).out ρ fun d=>.re d ρ:=rfl
theorem DH (C:Addr) (i n:Nat) (F:MF) (gl:Ev->R (List D)) (ρ:Ev):EV C i n F gl ρ=(Bf C ρ i>>=fun fs=>gl ρ>>=fun ds=>if ds.length=n then (F fs ds).read else .no):=rfl
theorem zy (C:Addr) (i:Nat) (F:MF) (ρ:Ev):Ce C i F ρ=(Bf C ρ i>>=fun fs=>(F fs []).read):=rfl
theorem CW (C:Addr) (i n:Nat) (F:MF) (gl:Ev->R (List D)) (ρ:Ev):Hz C i n F gl ρ=(wq C ρ i).out ρ fun o=>(gl ρ).out ρ fun ds=>if ds.length=n then (F o.2 ds).out C o.1 i ρ else .no:=rfl
theorem B3 (C:Addr) (i:Nat) (F:MF) (ρ:Ev):EI C i F ρ=(wq C ρ i).out ρ fun o=>(F o.2 []).out C o.1 i ρ:=rfl
theorem KR (d:D) (ρ:Ev) (k:Ev->O):(O.re d ρ).seq k=.re d ρ:=rfl
theorem Ht (d:D):RM.read (.rd d)=.ok d:=rfl
theorem HC (C:Addr):RM.read (.ex C)=.ex C:=rfl
theorem FQ (d:D) (fs:List (Nat×Fd)) (C p:Addr) (i:Nat) (ρ:Ev):RM.out (.ok d fs) C p i ρ=.nx (ρ.set i (some (.obj true C p fs))):=rfl
theorem Eg (d:D) (C p:Addr) (i:Nat) (ρ:Ev):RM.out (.rd d) C p i ρ=.nx ρ:=rfl
theorem GF (E C p:Addr) (i:Nat) (ρ:Ev):RM.out (.ex E) C p i ρ=.ex E ρ:=rfl
end L2
section
open L2
set_option compiler.extract_closed false in
local macro_rules | `(tactic| walk_at "run")=>`(tactic| simp -implicitDefEqProofs only [rvz,ciz,nlz,csz,Ew,FD,FJ,Ge,BX,↓xn,↓B5,↓Di,↓DY,IB,Kv,Ij,Hw,KF,Ja,F0,Iz,BR,IW,IM,GE,K4,Bm,CK,Jo,Kq,JV,La,EJ,FH,KI,IG,Kk,Hc,FP,HA,IJ,JW,FS,Hk,Hd,E3,Jm,Gp,FL,lX,Ej,C5,DI,Gf,Hy,Hv,Ie,IS,wz,HH,IL,KW,Kc,and_self,I9,K8,Ke,Kp,asl,Kt,KT,Kz,Hf,sv2,Kr,KY,Kb,KO,Kh,Ki,KM,KA,tJ,Ks,rd0,rd1,rd2,rd3,rd4,rd5,rd6,rd7,rd8,rd9,Lf,KZ,KB,R.ok_bind,R.ok_out,R.ex_bind,R.ex_out,cu,Il,IZ,J6,JZ,J1,Kx,J5,Jq,Jw,K1,IH,C6,Jk,Iw,HZ,Kl,List.set_cons_succ,List.length_nil,List.length_cons,List.cons_append,List.nil_append,Nat.reduceAdd,Nat.reduceBEq,Bool.not_true,Bool.not_false,Bool.false_eq_true,if_false,if_true,Gg,HP,Ik,B8,Dg,DN,EZ,Cl,DV,Cd,G8,Int.reduceLT,Int.reduceLE,Int.reduceBEq,decide_true,decide_false,CM,AF,D9,Ed,Ez,DH,zy,CW,B3,KR,Ht,HC,FQ,Eg,GF, *])
namespace Q
open L2
open PySem (sizeLine Addr)
noncomputable def JE:D->Bool
 | .int _=>true
 | _=>false
noncomputable def Aa:List D->R D
 | [.exc _]=>.no
 | [.dct _ _]=>.no
 | [d]=>.ok (.bl (JE d))
 | _=>.no
noncomputable def mZ:Ev->O:=(cj (pi (az (iV isInt) (rvz 0)) (HM (az (iV (·=="bool")) (rvz 0)))))
noncomputable def eN:Ev->O:=(ay mZ oNx)
theorem tD:∀ ds:List D,ds.length=1->Aa ds=.no\/au (eN  (ar 1 ds))=Aa ds:=by
 intro ds hl
 unfold eN mZ
 match ds,hl with
 | [d],_=>cases d <;> first|exact Or.inr rfl|exact Or.inl rfl
noncomputable def inB (d:D) (lo hi:Int):Bool:=match d with
 | .int i=>decide (lo<=i) && decide (i<=hi)
 | _=>false
noncomputable def zm:List D->R D
 | [.exc _,_,_]=>.no
 | [.dct _ _,_,_]=>.no
 | [d,.int lo,.int hi]=>.ok (.bl (inB d lo hi))
 | _=>.no
noncomputable def kr (cT:List D->R D):Ev->O:=(cj (pi (aG 1 cT (ac (rvz 0) nlz)) (g3 leD leD (rvz 1) (rvz 0) (rvz 2))))
noncomputable def dz (cT:List D->R D):Ev->O:=(ay (kr cT) oNx)
theorem qh:∀ ds:List D,ds.length=3->zm ds=.no\/au (dz Aa (ar 3 ds))=zm ds:=by
 intro ds hl
 unfold dz kr
 match ds,hl with
 | [d,l,h],_=>
  cases d <;> first|exact Or.inl rfl|skip
  all_goals (cases l <;> first|exact Or.inl rfl|skip)
  all_goals (cases h <;> first|exact Or.inl rfl|skip)
  all_goals first|exact Or.inr rfl|skip
  rename_i i lo hi hl
  refine Or.inr ?_
  show au (ay _ oNx [some (.val (.int i)),some (.val (.int lo)),some (.val (.int hi))])=R.ok (D.bl (inB (.int i) lo hi))
  by_cases h1:lo<=i <;> simp [ay,cj,pi,aG,ac,g3,rdV,Aa,JE,asB,leD,inB,au,O.seq,h1]
noncomputable def bt (x:List Nat):Bool:=x.all fun c=>decide (32<=c) && decide (c<=126)
noncomputable def JU:D->Bool
 | .str x=>bt x
 | _=>false
noncomputable def lZ:List D->R D
 | [.exc _]=>.no
 | [.dct _ _]=>.no
 | [.str x]=>if x.length<=sizeLine then .ok (.bl (bt x)) else .no
 | [d]=>.ok (.bl false)
 | _=>.no
noncomputable def lN:Ev->O:=(cj (pi (az (iV (·=="str")) (rvz 0)) (gOf Bb (ac (bL (jl (az ca (rvz 0)) [] (fun _=>R.ok true) (g3 leD leD (csz [32]) (rvz 0) (csz [126])))) nlz))))
noncomputable def eB:Ev->O:=(ay lN oNx)
theorem ss:∀ ds:List D,ds.length=1->lZ ds=.no\/au (eB  (ar 1 ds))=lZ ds:=by
 intro ds hl
 unfold eB lN
 match ds,hl with
 | [d],_=>
  cases d <;> first|exact Or.inl rfl|exact Or.inr rfl|skip
  rename_i x hl
  by_cases hx:x.length<=sizeLine
  ·refine Or.inr ?_
   have e:fZ (fun _=>R.ok true) (g3 leD leD (fun _=>.ok (.str [32])) (rvz 0) (fun _=>.ok (.str [126]))) (x.map fun c=>D.str [c]) [none]=.ok ((x.map fun c=>D.str [c]).map fun d=>.bl (match d with|.str [c]=>decide (32<=c) && decide (c<=126)|_=>false)):=by
    refine jm _ [] _ none fun d m=>⟨rfl,?_⟩
    obtain ⟨c,_,rfl⟩:=List.mem_map.1 m
    show (ofO (some (D.bl (!decide (([c]:List Nat)<[32]))))>>=fun z=>match z with
     | .bl true=>ofO (some (D.bl (!decide (([126]:List Nat)<[c]))))
     | .bl false=>R.ok (D.bl false)
     | _=>R.no:R D)=_
    rw [yA,yA,cu,R.ok_bind]
    cases h1:decide (32<=c) <;> simp [h1]
   have e2:lZ [.str x]=.ok (.bl (bt x)):=if_pos hx
   rw [e2]
   show au (ay _ oNx [some (.val (.str x))])=_
   simp only [ay,cj,pi,az,gOf,ac,bL,jl,rd0,iV,tyN,asB,jI,ca,R.ok_bind,List.map_nil]
   simp only [beq_self_eq_true,if_true,e,R.ok_bind]
   simp only [List.length_map,hx,if_true,R.ok_bind,kX,cu,R.ok_out,au,O.seq,List.all_map,bt]
   rfl
  ·exact Or.inl (if_neg hx)
noncomputable def Gi:D->Bool
 | .exc _=>false
 | .dct _ _=>false
 | .str x=>decide (x.length<=sizeLine)
 | _=>true
noncomputable def yY (d:D) (wd:Int):Bool:=match d with
 | .str x=>bt x && ((x.length:Int)==wd)
 | _=>false
noncomputable def wu (d:D) (wd:Int):Bool:=match d with
 | .tup xs=>decide (1<=xs.length) && decide (xs.length<=12) && xs.all fun r=>yY r wd
 | _=>false
noncomputable def yD:List D->R D
 | [.exc _,_]=>.no
 | [.dct _ _,_]=>.no
 | [.tup xs,.int wd]=>if xs.all Gi=true then .ok (.bl (wu (.tup xs) wd)) else .no
 | [d,.int wd]=>.ok (.bl false)
 | _=>.no
theorem wj (h:Gi d=true):lZ [d]=.ok (.bl (JU d)):=by
 cases d <;> first|rfl|(cases h;done)|skip
 exact if_pos (of_decide_eq_true h)
noncomputable def fU (aD:List D->R D):Ev->O:=(oIf (sN (gBn (az jx (az (iV (·=="tuple")) (rvz 0)))) (gBn (gB3 leD leD (ciz 1) (gOf eX (ac (rvz 0) nlz)) (ciz 12)))) (ay (cj (fun _=>R.ok (D.bl false))) oNx) oNx)
noncomputable def fQ (aD:List D->R D):Ev->O:=(cj (gOf Bb (ac (bL (jl (az ca (rvz 0)) [1] (fun _=>R.ok true) (pi (aG 1 aD (ac (rvz 0) nlz)) (g2 eqF (gOf eX (ac (rvz 0) nlz)) (rvz 1))))) nlz)))
noncomputable def cg (aD:List D->R D):Ev->O:=(ay (fU aD) (ay (fQ aD) oNx))
theorem kO:∀ ds:List D,ds.length=2->yD ds=.no\/au (cg lZ (ar 2 ds))=yD ds:=by
 intro ds hl
 unfold cg fU fQ
 match ds,hl with
 | [d,l],_=>
  cases d <;> first|exact Or.inl rfl|skip
  all_goals (cases l <;> first|exact Or.inl rfl|exact Or.inr rfl|skip)
  rename_i xs wd hl
  by_cases hf:xs.all Gi=true
  ·refine Or.inr ?_
   have e2:yD [.tup xs,.int wd]=.ok (.bl (wu (.tup xs) wd)):=if_pos hf
   rw [e2]
   have e:fZ (fun _=>R.ok true) (pi (aG 1 lZ (ac (rvz 0) fun x=>R.ok [])) (g2 eqF (gOf eX (ac (rvz 0) fun x=>R.ok [])) fun ρ=>rdV ρ 1)) xs [none,some (.val (.int wd))]=.ok (xs.map fun d=>.bl (yY d wd)):=by
    refine jm _ [some (.val (.int wd))] xs none fun d m=>⟨rfl,?_⟩
    have hd:=List.all_eq_true.1 hf d m
    simp only [pi,aG,ac,rd0,R.ok_bind,List.length_singleton,if_true,wj hd,asB]
    cases d <;> first|rfl|skip
    rename_i x
    show (if bt x=true then R.ok (D.bl ((x.length:Int)==wd)) else R.ok (.bl false))=R.ok (.bl (bt x && ((x.length:Int)==wd)))
    cases bt x <;> rfl
   show au (ay _ _ [some (.val (.tup xs)),some (.val (.int wd))])=_
   have i2:jI [1] [some (.val (.tup xs)),some (.val (.int wd))]=[none,some (.val (.int wd))]:=rfl
   have t1:iV (fun x=>x=="tuple") (.tup xs)=.ok (.bl true):=rfl
   have t2:jx (.bl true)=.ok true:=rfl
   have t3:eX [.tup xs]=some (.int xs.length):=rfl
   simp only [ay,oIf,sN,gBn,az,gB3,g3,cj,gOf,ac,bL,jl,rd0,R.ok_bind,R.ok_out,ca,i2,e,t1,t2,t3,cu,leD,Bool.not_true,Bool.false_eq_true,if_false]
   by_cases h1:1<=xs.length
   ·have h1':(1:Int)<=(xs.length:Int):=by omega
    by_cases h2:xs.length<=12
    ·have h2':(xs.length:Int)<=12:=by omega
     have h3:xs.length<=sizeLine:=Nat.le_trans h2 (by decide)
     simp [h1,h1',h2,h2',h3,asB,oNx,O.seq,kX,au,wu]
     simp only [ay,cj,gOf,ac,bL,jl,az,rd0,R.ok_bind,ca,i2,e,List.length_map,h3,if_true,kX,cu,R.ok_out,O.seq]
    ·have h2' : ¬ (xs.length:Int)<=12:=by omega
     simp [h1,h1',h2,h2',asB,oNx,O.seq,au,wu]
   ·have h1' : ¬ (1:Int)<=(xs.length:Int):=by omega
    simp [h1,h1',asB,oNx,O.seq,au,wu]
  ·exact Or.inl (if_neg hf)
noncomputable def qp (d:D) (wd m:Int):Bool:=match d with
 | .tup [a,b]=>inB a 0 (m - 1) && inB b 0 wd
 | _=>false
noncomputable def qT:D->Bool
 | .exc _=>false
 | .dct _ _=>false
 | _=>true
noncomputable def nC:List D->R D
 | [.exc _,_,_]=>.no
 | [.dct _ _,_,_]=>.no
 | [.tup xs,.int wd,.int m]=>if xs.all qT=true then .ok (.bl (qp (.tup xs) wd m)) else .no
 | [d,.int wd,.int m]=>.ok (.bl false)
 | _=>.no
theorem jE {lo hi:Int} (h:qT d=true):zm [d,.int lo,.int hi]=.ok (.bl (inB d lo hi)):=by
 cases d <;> first|rfl|(cases h;done)
noncomputable def mk (av:List D->R D):Ev->O:=(oIf (sN (gBn (az jx (az (iV (·=="tuple")) (rvz 0)))) (gB2 neF (gOf eX (ac (rvz 0) nlz)) (ciz 2))) (ay (cj (fun _=>R.ok (D.bl false))) oNx) oNx)
noncomputable def lW (av:List D->R D):Ev->O:=(cj (pi (aG 3 av (ac (g2 ixD (rvz 0) (ciz 0)) (ac (ciz 0) (ac (g2 yv (rvz 2) (ciz 1)) nlz)))) (aG 3 av (ac (g2 ixD (rvz 0) (ciz 1)) (ac (ciz 0) (ac (rvz 1) nlz))))))
noncomputable def eA (av:List D->R D):Ev->O:=(ay (mk av) (ay (lW av) oNx))
theorem sE:∀ ds:List D,ds.length=3->nC ds=.no\/au (eA zm (ar 3 ds))=nC ds:=by
 intro ds hl
 unfold eA mk lW
 match ds,hl with
 | [d,l,h],_=>
  cases d <;> first|exact Or.inl rfl|skip
  all_goals (cases l <;> first|exact Or.inl rfl|skip)
  all_goals (cases h <;> first|exact Or.inl rfl|exact Or.inr rfl|skip)
  rename_i xs wd m hl
  by_cases hf:xs.all qT=true
  ·refine Or.inr ?_
   have e2:nC [.tup xs,.int wd,.int m]=.ok (.bl (qp (.tup xs) wd m)):=if_pos hf
   rw [e2]
   match xs,hf with
   | [],_=>rfl
   | [_],_=>rfl
   | [a,b],hf=>
    have ha:qT a=true:=List.all_eq_true.1 hf a (by simp)
    have hb:qT b=true:=List.all_eq_true.1 hf b (by simp)
    show au ((pi (fun _=>zm [a,.int 0,.int (m - 1)]) (fun _=>zm [b,.int 0,.int wd]) []).out _ .rt |>.seq oNx)=_
    rw [pi,jE ha,jE hb]
    show au ((if inB a 0 (m - 1)=true then R.ok (D.bl (inB b 0 wd)) else R.ok (D.bl false)).out _ .rt |>.seq oNx)=R.ok (D.bl (inB a 0 (m - 1) && inB b 0 wd))
    cases inB a 0 (m - 1) <;> rfl
   | a::b::c::l,_=>
    show au (ay _ _ [some (.val (.tup (a::b::c::l))),some (.val (.int wd)),some (.val (.int m))])=_
    have t1:iV (fun x=>x=="tuple") (.tup (a::b::c::l))=.ok (.bl true):=rfl
    have t2:jx (.bl true)=.ok true:=rfl
    have t3:eX [.tup (a::b::c::l)]=some (.int (a::b::c::l).length):=rfl
    have t4:neF (.int (a::b::c::l).length) (.int 2)=some (.bl true):=by
     have:(((a::b::c::l).length:Int)==2)=false:=by simp;omega
     show some (D.bl (!(((a::b::c::l).length:Int)==2)))=_
     rw [this];rfl
    simp only [ay,oIf,sN,gBn,az,gB2,g2,cj,gOf,ac,rd0,R.ok_bind,R.ok_out,t1,t2,t3,t4,cu,Bool.not_true,Bool.false_eq_true,if_false]
    rfl
  ·exact Or.inl (if_neg hf)
noncomputable def rC:D->Bool
 | .exc _=>false
 | .dct _ _=>false
 | .tup [w,r,p]=>qT w && (match r with|.exc _=>false|.dct _ _=>false|.tup xs=>xs.all Gi|_=>true) && (match p with|.exc _=>false|.dct _ _=>false|.tup xs=>xs.all qT|_=>true)
 | _=>true
noncomputable def screen:D->Bool
 | .tup [a,r,p]=>match a with
  | .int wd=>inB (.int wd) 1 40 && wu r wd && (match r with|.tup rows=>qp p wd rows.length|_=>false)
  | _=>false
 | _=>false
noncomputable def lV:List D->R D
 | [d]=>if rC d=true then .ok (.bl (screen d)) else .no
 | _=>.no
noncomputable def kC (av aL bB:List D->R D):Ev->O:=(oIf (sN (gBn (az jx (az (iV (·=="tuple")) (rvz 0)))) (gB2 neF (gOf eX (ac (rvz 0) nlz)) (ciz 3))) (ay (cj (fun _=>R.ok (D.bl false))) oNx) oNx)
noncomputable def kE (av aL bB:List D->R D):Ev->O:=(fw 1 (g2 ixD (rvz 0) (ciz 0)))
noncomputable def kh (av aL bB:List D->R D):Ev->O:=(oIf (sN (gBn (az jx (aG 3 av (ac (rvz 1) (ac (ciz 1) (ac (ciz 40) nlz)))))) (gBn (az jx (aG 2 aL (ac (g2 ixD (rvz 0) (ciz 1)) (ac (rvz 1) nlz)))))) (ay (cj (fun _=>R.ok (D.bl false))) oNx) oNx)
noncomputable def kF (av aL bB:List D->R D):Ev->O:=(cj (aG 3 bB (ac (g2 ixD (rvz 0) (ciz 2)) (ac (rvz 1) (ac (gOf eX (ac (g2 ixD (rvz 0) (ciz 1)) nlz)) nlz)))))
noncomputable def dq (av aL bB:List D->R D):Ev->O:=(ay (kC av aL bB) (ay (kE av aL bB) (ay (kh av aL bB) (ay (kF av aL bB) oNx))))
theorem rP:∀ ds:List D,ds.length=1->lV ds=.no\/au (dq zm yD nC (ar 2 ds))=lV ds:=by
 intro ds hl
 unfold dq kC kE kh kF
 match ds,hl with
 | [d],_=>
  cases d <;> first|exact Or.inl rfl|exact Or.inr rfl|skip
  rename_i xs hl
  match xs with
  | []=>exact Or.inr rfl
  | [_]=>exact Or.inr rfl
  | [_,_]=>exact Or.inr rfl
  | a::b::c::e::l=>
   refine Or.inr ?_
   show au (ay _ _ [some (.val (.tup (a::b::c::e::l))),none])=_
   have t1:iV (fun x=>x=="tuple") (.tup (a::b::c::e::l))=.ok (.bl true):=rfl
   have t2:jx (.bl true)=.ok true:=rfl
   have t3:eX [.tup (a::b::c::e::l)]=some (.int (a::b::c::e::l).length):=rfl
   have t4:neF (.int (a::b::c::e::l).length) (.int 3)=some (.bl true):=by
    have:(((a::b::c::e::l).length:Int)==3)=false:=by simp;omega
    show some (D.bl (!(((a::b::c::e::l).length:Int)==3)))=_
    rw [this];rfl
   simp only [ay,oIf,sN,gBn,az,gB2,g2,cj,gOf,ac,rd0,R.ok_bind,R.ok_out,t1,t2,t3,t4,cu,Bool.not_true,Bool.false_eq_true,if_false]
   rfl
  | [a,r,p]=>
   by_cases hf:rC (.tup [a,r,p])=true
   ·refine Or.inr ?_
    have e2:lV [.tup [a,r,p]]=.ok (.bl (screen (.tup [a,r,p]))):=if_pos hf
    rw [e2]
    simp only [rC,Bool.and_eq_true] at hf
    obtain ⟨⟨ha,hr⟩,hp⟩:=hf
    show au (ay _ _ [some (.val (.tup [a,r,p])),none])=_
    have t1:iV (fun x=>x=="tuple") (.tup [a,r,p])=.ok (.bl true):=rfl
    have t2:∀ k,jx (.bl k)=.ok k:=fun _=>rfl
    have t3:eX [.tup [a,r,p]]=some (.int 3):=rfl
    have t4:neF (.int 3) (.int 3)=some (.bl false):=rfl
    have x0:ixD (.tup [a,r,p]) (.int 0)=some a:=rfl
    have x1:ixD (.tup [a,r,p]) (.int 1)=some r:=rfl
    have x2:ixD (.tup [a,r,p]) (.int 2)=some p:=rfl
    have s1:([some (.val (.tup [a,r,p])),none]:Ev).set 1 (some (.val a))=[some (.val (.tup [a,r,p])),some (.val a)]:=rfl
    simp only [ay,oIf,fw,sN,gBn,az,gB2,g2,cj,gOf,ac,rd0,rd1,R.ok_bind,R.ok_out,t1,t2,t3,t4,x0,x1,x2,s1,yV,Bz,cu,asB,oNx,O.seq,Bool.not_true,Bool.false_eq_true,if_false,jE ha]
    cases hi:inB a 1 40 with
    | false=>
     have:screen (.tup [a,r,p])=false:=by
      cases a <;> first|rfl|skip
      simp only [screen,hi,Bool.false_and]
     rw [this];rfl
    | true=>
     cases a <;> first|(cases hi;done)|skip
     rename_i i
     have e3:yD [r,.int i]=.ok (.bl (wu r i)):=by
      cases r <;> first|rfl|(cases hr;done)|exact if_pos hr
     cases hq:wu r i with
     | false=>
      have:screen (.tup [.int i,r,p])=false:=by simp only [screen,hi,hq,Bool.and_false,Bool.false_and]
      rw [e3,hq,this];rfl
     | true=>
      cases r <;> first|(cases hq;done)|skip
      rename_i rows
      have e4:nC [p,.int i,.int rows.length]=.ok (.bl (qp p i rows.length)):=by
       cases p <;> first|rfl|(cases hp;done)|exact if_pos hp
      have e5:screen (.tup [.int i,.tup rows,p])=qp p i rows.length:=by simp only [screen,hi,hq,Bool.and_true,Bool.true_and]
      rw [e3,hq,e5]
      show au ((nC [p,.int i,.int rows.length]).out _ .rt |>.seq _)=_
      rw [e4];rfl
   ·exact Or.inl (if_neg hf)
noncomputable def pT:List D->Option (List Int)
 | []=>some []
 | .int i::ds=>(pT ds).map (i::·)
 | _=>none
theorem vG:∀ {ds:List D} {ns:List Int},pT ds=some ns->ds=ns.map .int
 | [],ns,h=>by cases h;rfl
 | d::ds,ns,h=>by
  cases d <;> first|(cases h;done)|skip
  rename_i i
  cases q:pT ds with
  | none=>simp [pT,q] at h
  | some ms=>simp [pT,q] at h;subst h;rw [vG q];rfl
theorem qV:∀ ns:List Int,pT (ns.map .int)=some ns
 | []=>rfl
 | i::ns=>by simp [pT,qV ns]
noncomputable def cell (ns:List Int) (k:Nat):Int:=if k<ns.length then ns.getD k 0 else if ns.length=0 then 0 else ns.getD (k % ns.length) 0 * 31+k
theorem uX {ns:List Int} (h:k<ns.length):atI (ns.map D.int) (k:Int)=some (.int (ns.getD k 0)):=by
 have e:ixN (ns.map D.int).length (k:Int)=some k:=by
  rw [List.length_map]
  simp [ixN]
  try omega
 rw [atI,e]
 simp [List.getD,h]
theorem tfr {F:List D->R D} {n:Nat}:∀ ds:List D,ds.length=n->F ds=.no\/F ds=F ds:=fun _ _=>.inr rfl
noncomputable def mV:Ev->O:=(oIf (gB2 ltD (rvz 1) (gOf eX (ac (rvz 0) nlz))) (ay (cj (g2 ixD (rvz 0) (rvz 1))) oNx) oNx)
noncomputable def ng:Ev->O:=(oIf (gB2 eqF (rvz 0) (bL (qI nlz))) (ay (cj (ciz 0)) oNx) oNx)
noncomputable def lI:Ev->O:=(cj (g2 ci (g2 jB (g2 ixD (rvz 0) (g2 xx (rvz 1) (gOf eX (ac (rvz 0) nlz)))) (ciz 31)) (rvz 1)))
noncomputable def cZ:Ev->O:=(ay mV (ay ng (ay lI oNx)))
noncomputable def zN:List D->R D:=fun ds=>au (cZ (ar 2 ds))
theorem xt {ns:List Int} {n:Nat}:zN [.lst fz (ns.map .int),.int n]=.ok (.int (cell ns n)):=by
 show au (cZ [some (.val (.lst fz (ns.map .int))),some (.val (.int n))])=_
 unfold cZ mV ng lI
 have t3:eX [.lst fz (ns.map .int)]=some (.int ns.length):=by simp [eX]
 by_cases h1:n<ns.length
 ·have h1':(n:Int)<(ns.length:Int):=by omega
  have x1:ixD (.lst fz (ns.map .int)) (.int n)=some (.int (ns.getD n 0)):=uX h1
  simp only [ay,oIf,gB2,g2,cj,gOf,ac,rd0,rd1,R.ok_bind,R.ok_out,t3,x1,cu,ltD,asB,h1',decide_true,if_true,O.seq,au,cell,h1]
 ·have h1' : ¬ (n:Int)<(ns.length:Int):=by omega
  cases ns with
  | nil=>rfl
  | cons a as=>
   have t4:eqF (.lst fz ((a::as).map .int)) (.lst false [])=some (.bl false):=rfl
   have h2:n % (a::as).length<(a::as).length:=Nat.mod_lt _ (by simp)
   have x1:ixD (.lst fz ((a::as).map .int)) (.int ((n % (a::as).length:Nat):Int))=some (.int ((a::as).getD (n % (a::as).length) 0)):=uX h2
   have m1:xx (.int n) (.int (a::as).length)=some (.int ((n % (a::as).length:Nat):Int)):=by
    have:(0:Int)<((a::as).length:Int):=by simp
    simp only [xx,this,if_true];rw [Int.natCast_emod]
   have m2:∀ z:Int,jB (.int z) (.int 31)=some (.int (z * 31)):=fun z=>if_pos (Or.inr (by decide))
   have z1:(0:Nat)<=sizeLine:=Nat.zero_le _
   have z2 : ¬ (a::as).length=0:=by simp
   simp only [ay,oIf,gB2,g2,cj,gOf,ac,bL,qI,rd0,rd1,R.ok_bind,R.ok_out,t3,t4,x1,m1,m2,cu,ltD,ci,asB,h1',decide_false,Bool.false_eq_true,if_false,O.seq,oNx,au,cell,h1,List.length_nil,z1,if_true,z2]
noncomputable def drawn (ns:List Int) (k:Nat):Int:=(cell ns k+6151 * ((k:Int)+1)) * 40692 % 2147483399
noncomputable def BZ (ns:List Int) (k:Nat) (m:Int):Int:=(drawn ns k * drawn ns k+drawn ns k / 31) % 2147483629 % m
theorem wN (ns:List Int) (k:Nat) {m:Int} (h:0<m):0<=BZ ns k m/\BZ ns k m<m:=⟨Int.emod_nonneg _ (by omega),Int.emod_lt_of_pos _ h⟩
noncomputable def mR (bQ:List D->R D):Ev->O:=(fw 3 (g2 xx (g2 jB (g2 ci (aG 2 bQ (ac (rvz 0) (ac (rvz 1) nlz))) (g2 jB (ciz 6151) (g2 ci (rvz 1) (ciz 1)))) (ciz 40692)) (ciz 2147483399)))
noncomputable def lj (bQ:List D->R D):Ev->O:=(cj (g2 xx (g2 xx (g2 ci (g2 jB (rvz 3) (rvz 3)) (g2 Ao (rvz 3) (ciz 31))) (ciz 2147483629)) (rvz 2)))
noncomputable def db (bQ:List D->R D):Ev->O:=(ay (mR bQ) (ay (lj bQ) oNx))
noncomputable def cH:List D->R D:=fun ds=>au (db zN (ar 4 ds))
theorem xT {ns:List Int} {n:Nat} {m:Int} (hm:0<m):cH [.lst fz (ns.map .int),.int n,.int m]=.ok (.int (BZ ns n m)):=by
 show au (db zN [some (.val (.lst fz (ns.map .int))),some (.val (.int n)),some (.val (.int m)),none])=_
 unfold db mR lj
 have m1:∀ z:Int,jB (.int 6151) (.int z)=some (.int (6151 * z)):=fun z=>by show (if ((-(2 ^ 64):Int)<6151/\(6151:Int)<2 ^ 64)\/((-(2 ^ 64):Int)<z/\z<2 ^ 64) then some (D.int (6151 * z)) else none)=_;exact if_pos (Or.inl (by decide))
 have m2:∀ z:Int,jB (.int z) (.int 40692)=some (.int (z * 40692)):=fun z=>if_pos (Or.inr (by decide))
 have m3:∀ z:Int,xx (.int z) (.int 2147483399)=some (.int (z % 2147483399)):=fun z=>by show (if (0:Int)<2147483399 then some (D.int (z % 2147483399)) else none)=_;exact if_pos (by decide)
 have m4:∀ z:Int,xx (.int z) (.int 2147483629)=some (.int (z % 2147483629)):=fun z=>by show (if (0:Int)<2147483629 then some (D.int (z % 2147483629)) else none)=_;exact if_pos (by decide)
 have m5:∀ z:Int,xx (.int z) (.int m)=some (.int (z % m)):=fun z=>if_pos hm
 have m6:∀ z:Int,Ao (.int z) (.int 31)=some (.int (z / 31)):=fun z=>by show (if (0:Int)<31/\(31:Int)<1073741824 then some (D.int (z / 31)) else none)=_;exact if_pos (by decide)
 have m7:∀ i j:Int,ci (.int i) (.int j)=some (.int (i+j)):=fun _ _=>rfl
 have hd:0<=drawn ns n/\drawn ns n<2147483399:=⟨Int.emod_nonneg _ (by decide),Int.emod_lt_of_pos _ (by decide)⟩
 have m8:jB (.int (drawn ns n)) (.int (drawn ns n))=some (.int (drawn ns n * drawn ns n)):=if_pos (Or.inl (by omega))
 have s1:∀ v,([some (.val (.lst fz (ns.map .int))),some (.val (.int n)),some (.val (.int m)),none]:Ev).set 3 v=[some (.val (.lst fz (ns.map .int))),some (.val (.int n)),some (.val (.int m)),v]:=fun _=>rfl
 have q1:(cell ns n+6151 * ((n:Int)+1)) * 40692 % 2147483399=drawn ns n:=rfl
 simp only [ay,fw,cj,g2,yV,rd0,rd1,rd2,rd3,R.ok_bind,R.ok_out,xt,m1,m2,m3,m4,m5,m6,m7,cu,O.seq,s1,q1,m8,au,BZ]
noncomputable def mi (C:Addr):List D->R D
 | [d]=>if rC d=true then (if screen d=true then .ok .non else .ex C) else .no
 | _=>.no
noncomputable def gY (cD:List D->R D) (bj:Addr):Ev->O:=(oIf (gBn (az jx (aG 1 cD (ac (rvz 0) nlz)))) (ay (iY bj (ac (csz [116,104,105,115,32,105,115,32,110,111,32,115,99,114,101,101,110]) nlz)) oNx) oNx)
noncomputable def cq (cD:List D->R D) (bj:Addr):Ev->O:=(ay (gY cD bj) oNx)
theorem lQ:∀ ds:List D,ds.length=1->mi C ds=.no\/au (cq lV C (ar 1 ds))=mi C ds:=by
 intro ds hl
 unfold cq gY
 match ds,hl with
 | [d],_=>
  by_cases hf:rC d=true
  ·refine Or.inr ?_
   have e1:lV [d]=.ok (.bl (screen d)):=if_pos hf
   have e2:mi C [d]=if screen d=true then .ok .non else .ex C:=if_pos hf
   rw [e2]
   show au (ay _ _ [some (.val d)])=_
   have t2:∀ k,jx (.bl k)=.ok k:=fun _=>rfl
   simp only [ay,oIf,iY,gBn,az,Bw,rd0,R.ok_bind,R.ok_out,e1,t2]
   cases screen d <;> rfl
  ·exact Or.inl (if_neg hf)
theorem DG {α:Type} (n:Nat) (x:α):(List.replicate n [x]).flatten=List.replicate n x:=by
 induction n with
 | zero=>rfl
 | succ n ih=>rw [List.replicate_succ,List.flatten_cons,ih];rfl
theorem zG {α:Type} (xs:List α) (l:Nat) (h:l<=xs.length):jz xs none (some (l:Int))=xs.take l:=by
 have h1:HT.sIx xs.length 0 none=0:=rfl
 have h2:HT.sIx xs.length xs.length (some (l:Int))=l:=by
  simp only [HT.sIx]
  first|omega|(split <;> omega)
 unfold jz
 rw [h1,h2]
 simp
theorem xA {n:Nat} (h:n<=100):jB (.str [32]) (.int (n:Int))=some (.str (List.replicate n 32)):=by
 have hz:(100:Nat)<=sizeLine:=by decide
 have e:[32]=[32]:=rfl
 rw [e,<- DG n 32]
 simp only [jB]
 rw [if_pos (by refine ⟨by omega,by omega,?_⟩;simp;omega),Int.toNat_natCast]
noncomputable def cl:Nat->D->Bool
 | 0,_=>false
 | _+1,.exc _=>false
 | _+1,.dct _ _=>false
 | n+1,.tup xs=>xs.all (cl n)
 | n+1,.lst _ xs=>xs.all (cl n)
 | _+1,_=>true
theorem pv {f:D->D->Option Bool}:∀ xs:List D,(∀ x∈xs,f x x=some true)->eqZ f xs xs=some (xs.map fun _=>true)
 | [],_=>rfl
 | x::xs,h=>by
  rw [eqZ,h x (List.mem_cons_self ..),pv xs fun y hy=>h y (List.mem_cons_of_mem _ hy)];rfl
theorem oG {α:Type}:∀ xs:List α,(xs.map fun _=>true).all id=true
 | []=>rfl
 | _::xs=>by rw [List.map_cons,List.all_cons,oG xs];rfl
theorem pH:∀ (n m:Nat) (d:D),n<=m->cl n d=true->eqD m d d=some true
 | 0,_,_,_,h=>by simp [cl] at h
 | n+1,0,_,h,_=>by omega
 | n+1,m+1,d,hm,h=>by
  cases d <;> first|(simp [cl] at h;done)|(simp [eqD];done)|skip
  ·rename_i xs
   simp only [cl,List.all_eq_true] at h
   have:=pv (f:=eqD m) xs fun x hx=>pH n m x (by omega) (h x hx)
   simp only [eqD,this,Option.map_some,oG,beq_self_eq_true,Bool.and_true]
  ·rename_i fz xs
   simp only [cl,List.all_eq_true] at h
   have:=pv (f:=eqD m) xs fun x hx=>pH n m x (by omega) (h x hx)
   simp only [eqD,if_true,this,Option.map_some,oG]
theorem zd (h:cl 10 d=true):neF d d=some (.bl false):=by
 unfold neF;rw [pH 10 40 d (by omega) h];rfl
noncomputable def JM:List Nat->D->D->Option D
 | [],_,v=>some v
 | k::ks,.tup xs,v=>match xs[k]? with
  | some x=>if xs.length<=1000 then (JM ks x v).map fun y=>.tup (xs.take k++[y]++xs.drop (k+1)) else none
  | none=>none
 | _,_,_=>none
noncomputable def FZ:List D->Option (List Nat)
 | []=>some []
 | .int i::ds=>if 0<=i then (FZ ds).map (i.toNat::·) else none
 | _::_=>none
noncomputable def JO (n:Nat):List D->R D
 | [d,.tup p,v]=>match FZ p with
  | some ks=>if ks.length<n/\n<=500 then ofO (JM ks d v) else .no
  | none=>.no
 | _=>.no
noncomputable def pt:Nat->D->Bool
 | 0,_=>false
 | _+1,.int _=>true
 | _+1,.str x=>decide (x.length<=900)
 | n+1,.tup xs=>xs.all (pt n) && decide (xs.length<=900)
 | _+1,_=>false
noncomputable def JA:Nat->D->Bool
 | 0,_=>true
 | _+1,.exc _=>false
 | _+1,.dct _ _=>false
 | _+1,.str x=>decide (x.length<=1000)
 | n+1,.tup xs=>xs.all (JA n)
 | n+1,.lst _ xs=>xs.all (JA n)
 | _+1,_=>true
noncomputable def qD (aD:List D->R D):Ev->O:=(cj (pi (g2 eqF (gOf eX (ac (rvz 0) nlz)) (ciz 2)) (pi (g2 eqF (g2 ixD (rvz 0) (ciz 0)) (csz [115,97,121])) (pi (aG 1 aD (ac (g2 ixD (rvz 0) (ciz 1)) nlz)) (g3 leD leD (ciz 1) (gOf eX (ac (g2 ixD (rvz 0) (ciz 1)) nlz)) (ciz 40))))))
noncomputable def jO (aD:List D->R D):Ev->O:=(ay (qD aD) oNx)
noncomputable def vB (av:List D->R D):Ev->O:=(oIf (sN (gB2 neF (gOf eX (ac (rvz 0) nlz)) (ciz 3)) (gB2 neF (g2 ixD (rvz 0) (ciz 0)) (csz [103,111]))) (ay (cj (fun _=>R.ok (D.bl false))) oNx) oNx)
noncomputable def uR (av:List D->R D):Ev->O:=(cj (pi (aG 3 av (ac (g2 ixD (rvz 0) (ciz 1)) (ac (ciz 0) (ac (g2 yv (ciz 12) (ciz 1)) nlz)))) (aG 3 av (ac (g2 ixD (rvz 0) (ciz 2)) (ac (ciz 0) (ac (ciz 40) nlz))))))
noncomputable def lD (av:List D->R D):Ev->O:=(ay (vB av) (ay (uR av) oNx))
noncomputable def lP (dm fC:List D->R D):Ev->O:=(oIf (gBn (az jx (az (iV (·=="tuple")) (rvz 0)))) (ay (cj (fun _=>R.ok (D.bl false))) oNx) oNx)
noncomputable def mX (dm fC:List D->R D):Ev->O:=(cj (gOr (aG 1 dm (ac (rvz 0) nlz)) (gOr (aG 1 fC (ac (rvz 0) nlz)) (g2 eqF (rvz 0) (az mkT (ac (csz [119,105,112,101]) nlz))))))
noncomputable def gU (dm fC:List D->R D):Ev->O:=(ay (lP dm fC) (ay (mX dm fC) oNx))
noncomputable def iy (cQ:List D->R D) (bf:Addr):Ev->O:=(oIf (gBn (az jx (aG 1 cQ (ac (rvz 0) nlz)))) (ay (iY bf (ac (csz [116,104,105,115,32,105,115,32,110,111,32,111,114,100,101,114]) nlz)) oNx) oNx)
noncomputable def dP (cQ:List D->R D) (bf:Addr):Ev->O:=(ay (iy cQ bf) oNx)
noncomputable def dj:Ev->O:=(fw 3 (g2 ixD (g2 ixD (rvz 0) (ciz 2)) (ciz 0)))
noncomputable def dk:Ev->O:=(fw 4 (g2 ci (g2 ci (gSl (g2 ixD (rvz 0) (ciz 1)) (fun _=>R.ok none) (iK (rvz 3))) (az mkT (ac (rvz 1) nlz))) (gSl (g2 ixD (rvz 0) (ciz 1)) (iK (g2 ci (rvz 3) (ciz 1))) (fun _=>R.ok none))))
noncomputable def di:Ev->O:=(cj (az mkT (ac (g2 ixD (rvz 0) (ciz 0)) (ac (rvz 4) (ac (az mkT (ac (rvz 3) (ac (rvz 2) nlz))) nlz)))))
noncomputable def cc:Ev->O:=(ay dj (ay dk (ay di oNx)))
noncomputable def jX (ai:List D->R D) (aX:Addr):Ev->O:=(fw 2 (g2 ixD (g2 ixD (rvz 0) (ciz 1)) (g2 ixD (g2 ixD (rvz 0) (ciz 2)) (ciz 0))))
noncomputable def kI (ai:List D->R D) (aX:Addr):Ev->O:=(fw 3 (g2 ixD (g2 ixD (rvz 0) (ciz 2)) (ciz 1)))
noncomputable def kB (ai:List D->R D) (aX:Addr):Ev->O:=(fw 4 (g2 ci (rvz 3) (gOf eX (ac (rvz 1) nlz))))
noncomputable def ka (ai:List D->R D) (aX:Addr):Ev->O:=(oIf (gB2 gtD (rvz 4) (g2 ixD (rvz 0) (ciz 0))) (ay (iY aX (ac (csz [116,104,101,32,116,101,120,116,32,105,115,32,119,105,100,101,114,32,116,104,97,110,32,119,104,97,116,32,105,115,32,108,101,102,116,32,111,102,32,116,104,101,32,114,111,119]) nlz)) oNx) oNx)
noncomputable def kH (ai:List D->R D) (aX:Addr):Ev->O:=(cj (aG 3 ai (ac (rvz 0) (ac (g2 ci (g2 ci (gSl (rvz 2) (fun _=>R.ok none) (iK (rvz 3))) (rvz 1)) (gSl (rvz 2) (iK (rvz 4)) (fun _=>R.ok none))) (ac (rvz 4) nlz)))))
noncomputable def fE (ai:List D->R D) (aX:Addr):Ev->O:=(ay (jX ai aX) (ay (kI ai aX) (ay (kB ai aX) (ay (ka ai aX) (ay (kH ai aX) oNx)))))
noncomputable def lR (aX:Addr):Ev->O:=(oIf (sN (gB2 geD (rvz 1) (gOf eX (ac (g2 ixD (rvz 0) (ciz 1)) nlz))) (gB2 gtD (rvz 2) (g2 ixD (rvz 0) (ciz 0)))) (ay (iY aX (ac (csz [116,104,101,32,115,99,114,101,101,110,32,100,111,101,115,32,110,111,116,32,104,97,118,101,32,116,104,105,115,32,112,108,97,99,101]) nlz)) oNx) oNx)
noncomputable def lA (aX:Addr):Ev->O:=(cj (az mkT (ac (g2 ixD (rvz 0) (ciz 0)) (ac (g2 ixD (rvz 0) (ciz 1)) (ac (az mkT (ac (rvz 1) (ac (rvz 2) nlz))) nlz)))))
noncomputable def gC (aX:Addr):Ev->O:=(ay (lR aX) (ay (lA aX) oNx))
noncomputable def iM (ai:List D->R D):Ev->O:=(fw 1 (g2 ixD (g2 ixD (rvz 0) (ciz 1)) (g2 ixD (g2 ixD (rvz 0) (ciz 2)) (ciz 0))))
noncomputable def jw (ai:List D->R D):Ev->O:=(fw 2 (g2 ixD (g2 ixD (rvz 0) (ciz 2)) (ciz 1)))
noncomputable def je (ai:List D->R D):Ev->O:=(cj (aG 3 ai (ac (rvz 0) (ac (we "str" gJ (gSl (rvz 1) (fun _=>R.ok none) (iK (rvz 2))) (ac (g2 ixD (rvz 0) (ciz 0)) nlz)) (ac (rvz 2) nlz)))))
noncomputable def eR (ai:List D->R D):Ev->O:=(ay (iM ai) (ay (jw ai) (ay (je ai) oNx)))
noncomputable def cV (bD bK bu:List D->R D):Ev->O:=(oIf (gB2 eqF (g2 ixD (rvz 1) (ciz 0)) (csz [115,97,121])) (ay (cj (aG 2 bD (ac (rvz 0) (ac (g2 ixD (rvz 1) (ciz 1)) nlz)))) oNx) oNx)
noncomputable def cX (bD bK bu:List D->R D):Ev->O:=(oIf (gB2 eqF (g2 ixD (rvz 1) (ciz 0)) (csz [103,111])) (ay (cj (aG 3 bK (ac (rvz 0) (ac (g2 ixD (rvz 1) (ciz 1)) (ac (g2 ixD (rvz 1) (ciz 2)) nlz))))) oNx) oNx)
noncomputable def cU (bD bK bu:List D->R D):Ev->O:=(cj (aG 1 bu (ac (rvz 0) nlz)))
noncomputable def dJ (bD bK bu:List D->R D):Ev->O:=(ay (cV bD bK bu) (ay (cX bD bK bu) (ay (cU bD bK bu) oNx)))
noncomputable def scr (wd:Nat) (rows:List (List Nat)) (r c:Nat):D:=.tup [.int (wd:Int),.tup (rows.map .str),.tup [.int (r:Int),.int (c:Int)]]
structure SOk (wd:Nat) (rows:List (List Nat)) (r c:Nat):Prop where
 w:wd<=100
 c:c<=wd
 r:r<rows.length
 m:rows.length<=100
 l:∀ x∈rows,x.length=wd
theorem AV (rows:List (List Nat)) (r:Nat) (x:List Nat) (h:r<rows.length):(rows.map D.str).take r++[D.str x]++(rows.map D.str).drop (r+1)=(rows.set r x).map D.str:=by
 rw [List.set_eq_take_append_cons_drop,if_pos h]
 simp [List.map_take,List.map_drop]
noncomputable def gO (bh:List D->R D) (bf:Addr):Ev->O:=(oIf (gBn (az jx (az (iV (·=="list")) (rvz 0)))) (ay (iY bf (ac (csz [116,104,105,115,32,105,115,32,110,111,32,108,105,115,116,32,111,102,32,111,114,100,101,114,115]) nlz)) oNx) oNx)
noncomputable def dR (bh:List D->R D) (bf:Addr):Ev->O:=(ay (pP (aG 1 bh (ac (rvz 1) nlz))) oNx)
noncomputable def gG (bh:List D->R D) (bf:Addr):Ev->O:=(zr (jA 1) (az ca (rvz 0)) (dR bh bf))
noncomputable def df (bh:List D->R D) (bf:Addr):Ev->O:=(ay (gO bh bf) (ay (gG bh bf) oNx))
noncomputable def me (aq ah aJ:List D->R D):Ev->O:=(pP (aG 1 aq (ac (rvz 0) nlz)))
noncomputable def md (aq ah aJ:List D->R D):Ev->O:=(pP (aG 1 ah (ac (rvz 1) nlz)))
noncomputable def lH (aq ah aJ:List D->R D):Ev->O:=(fw 2 (rvz 0))
noncomputable def iz (aq ah aJ:List D->R D):Ev->O:=(ay (fw 2 (aG 2 aJ (ac (rvz 2) (ac (rvz 3) nlz)))) oNx)
noncomputable def mS (aq ah aJ:List D->R D):Ev->O:=(zr (jA 3) (az ca (rvz 1)) (iz aq ah aJ))
noncomputable def lG (aq ah aJ:List D->R D):Ev->O:=(cj (rvz 2))
noncomputable def gR (aq ah aJ:List D->R D):Ev->O:=(ay (me aq ah aJ) (ay (md aq ah aJ) (ay (lH aq ah aJ) (ay (mS aq ah aJ) (ay (lG aq ah aJ) oNx)))))
noncomputable def oJ:Ev->O:=(oIf (gB2 eqF (g2 ixD (rvz 0) (ciz 0)) (csz [115,97,121])) (ay (cj (gOf eX (ac (g2 ixD (rvz 0) (ciz 1)) nlz))) oNx) oNx)
noncomputable def oB:Ev->O:=(oIf (gB2 eqF (g2 ixD (rvz 0) (ciz 0)) (csz [103,111])) (ay (cj (ciz 2)) oNx) oNx)
noncomputable def pJ:Ev->O:=(cj (ciz 1))
noncomputable def eP:Ev->O:=(ay oJ (ay oB (ay pJ oNx)))
noncomputable def yo (ah aV:List D->R D):Ev->O:=(pP (aG 1 ah (ac (rvz 0) nlz)))
noncomputable def yU (ah aV:List D->R D):Ev->O:=(cj (gOf D6 (ac (bL (jl (az ca (rvz 0)) [] (fun _=>R.ok true) (aG 1 aV (ac (rvz 0) nlz)))) nlz)))
noncomputable def pd (ah aV:List D->R D):Ev->O:=(ay (yo ah aV) (ay (yU ah aV) oNx))
noncomputable def fm:Ev->O:=(oIf (gB2 neF (g2 ixD (rvz 0) (ciz 0)) (g2 ixD (rvz 1) (ciz 0))) (ay (cj (fun _=>R.ok D.non)) oNx) oNx)
noncomputable def fj:Ev->O:=(oIf (gB2 neF (g2 ixD (rvz 0) (ciz 0)) (csz [115,97,121])) (ay (cj (rvz 1)) oNx) oNx)
noncomputable def eZ:Ev->O:=(fw 2 (g2 ci (g2 ixD (rvz 0) (ciz 1)) (g2 ixD (rvz 1) (ciz 1))))
noncomputable def eY:Ev->O:=(cj (gIf (gB2 leD (gOf eX (ac (rvz 2) nlz)) (ciz 40)) (az mkT (ac (csz [115,97,121]) (ac (rvz 2) nlz))) (fun _=>R.ok D.non)))
noncomputable def cJ:Ev->O:=(ay fm (ay fj (ay eZ (ay eY oNx))))
noncomputable def ke (ah aC:List D->R D):Ev->O:=(pP (aG 1 ah (ac (rvz 0) nlz)))
noncomputable def kn (ah aC:List D->R D):Ev->O:=(Gs 1 (qI nlz))
noncomputable def eJ (ah aC:List D->R D):Ev->O:=(ay (DT 1 3 (gIf (gB2 gtD (gOf eX (ac (rvz 1) nlz)) (ciz 0)) (aG 2 aC (ac (g2 ixD (rvz 1) (az El (ciz 1))) (ac (rvz 2) nlz))) (fun _=>R.ok D.non))) (ay (oIf (gB2 isF (rvz 3) (fun _=>R.ok D.non)) (ay (GN 1 (rvz 2)) oNx) (ay (CP 1 (az El (ciz 1)) (rvz 3)) oNx)) oNx))
noncomputable def jY (ah aC:List D->R D):Ev->O:=(zr (jA 2) (az ca (rvz 0)) (eJ ah aC))
noncomputable def ky (ah aC:List D->R D):Ev->O:=(cj (rvz 1))
noncomputable def fA (ah aC:List D->R D):Ev->O:=(ay (ke ah aC) (ay (kn ah aC) (ay (jY ah aC) (Et 1 (ay (ky ah aC) oNx)))))
inductive Od where
 | say (x:List Nat)
 | go (r c:Nat)
 | wipe
noncomputable def oD:Od->D
 | .say x=>.tup [.str [115,97,121],.str x]
 | .go r c=>.tup [.str [103,111],.int (r:Int),.int (c:Int)]
 | .wipe=>.tup [.str [119,105,112,101]]
noncomputable def okO:Od->Bool
 | .say x=>bt x && (decide (1<=x.length) && decide (x.length<=40))
 | .go r c=>decide (r<=11) && decide (c<=40)
 | .wipe=>true
noncomputable def bA:Od->Nat
 | .say x=>x.length
 | .go _ _=>2
 | .wipe=>1
noncomputable def eT:Od->Od->Option Od
 | .say x,.say y=>if x.length+y.length<=40 then some (.say (x++y)) else none
 | .go _ _,.go r c=>some (.go r c)
 | .wipe,.wipe=>some .wipe
 | _,_=>none
noncomputable def pZ:Od->Nat
 | .say x=>x.length
 | _=>0
noncomputable def jD:Option Od->D
 | some o=>oD o
 | none=>.non
noncomputable def dN (acc:List Od) (o:Od):List Od:=match acc.getLast? with
 | none=>[o]
 | some l=>match eT l o with
  | some j=>acc.dropLast++[j]
  | none=>acc++[o]
theorem qC (o:Od):dN [] o=[o]:=rfl
theorem hX {acc:List Od} {l o j:Od} (h:eT l o=some j):dN (acc++[l]) o=acc++[j]:=by simp [dN,h]
theorem jv {acc:List Od} {l o:Od} (h:eT l o=none):dN (acc++[l]) o=acc++[l]++[o]:=by simp [dN,h]
noncomputable def shO (os:List Od):List Od:=os.foldl dN []
theorem AC (l:List Od):l=[]\/∃ l' b,l=l'++[b]:=by
 rcases List.eq_nil_or_concat l with h|⟨l',b,h⟩
 ·exact .inl h
 ·exact .inr ⟨l',b,by rw [h,List.concat_eq_append]⟩
theorem Jp (o:Od):fl 10 (oD o)=true:=by cases o <;> rfl
noncomputable def FM (os:List Od):Nat:=(os.map pZ).sum
theorem AI {l o j:Od} (h:eT l o=some j):pZ j=pZ l+pZ o/\bA j<=bA l+bA o:=by
 cases l <;> cases o <;> simp [eT] at h
 ·obtain ⟨_,rfl⟩:=h;simp [pZ,bA]
 ·subst h;simp [pZ,bA]
 ·subst h;simp [pZ,bA]
theorem vn (acc:List Od) (o:Od):FM (dN acc o)=FM acc+pZ o/\(dN acc o).length<=acc.length+1/\((dN acc o).map bA).sum<=(acc.map bA).sum+bA o:=by
 rcases AC acc with rfl|⟨a,l,rfl⟩
 ·rw [qC];simp [FM]
 ·cases hj:eT l o with
  | none=>rw [jv hj];simp [FM,List.sum_append];omega
  | some j=>
   obtain ⟨h1,h2⟩:=AI hj
   rw [hX hj]
   simp [FM,List.sum_append]
   omega
theorem Dn {p:Addr} {fs:List (Nat×Fd)} (h:ρ[i]?=some (some (.obj true C p fs))):wq C ρ i=.ok (p,fs):=by
 unfold wq;rw [h];exact if_pos rfl
noncomputable def Jv (sts tk:List D):List (Nat×Fd):=[(0,.own sts),(1,.own tk)]
noncomputable def st3 (a b:D) (c:Int):D:=.tup [a,b,.int c]
noncomputable def Kj:List (Nat×Fd)->Option (List D×List D)
 | [(0,.own a),(1,.own b)]=>some (a,b)
 | _=>none
noncomputable def t3D:D->Option (D×D×Int)
 | .tup [a,b,.int c]=>some (a,b,c)
 | _=>none
noncomputable def HE (sts:List D):Option (D×D×Int):=sts.getLast?.bind t3D
section
variable {Cs Co Cr Cb Cp:Addr}
noncomputable def KH (k:List D->List D->D->D->Int->List D->RM):MF:=fun fs ds=>match Kj fs with
 | none=>.no
 | some (sts,tk)=>(match HE sts with
  | none=>.no
  | some (a,b,c)=>k sts tk a b c ds)
theorem fl1 (sts tk:List D):BQ (Jv sts tk) 1=.ok tk:=rfl
end
theorem K9 (a b c:D):ixD (.tup [a,b,c]) (.int 0)=some a:=rfl
theorem Jy (a b c:D):ixD (.tup [a,b,c]) (.int 1)=some b:=rfl
theorem JT (f:Bool) (x:List D):ca (.lst f x)=.ok x:=rfl
theorem B7 {α:Type} (xs:List α) (a b:Nat):jz xs (some (a:Int)) (some ((a+b:Nat):Int))=(xs.drop a).take b:=by
 unfold jz
 rw [HT.sIx_nat,HT.sIx_nat]
 by_cases h:a<=xs.length
 ·rw [Nat.min_eq_left h]
  by_cases h2:a+b<=xs.length
  ·rw [Nat.min_eq_left h2,Nat.add_sub_cancel_left]
  ·rw [Nat.min_eq_right (by omega),List.take_of_length_le (by simp),List.take_of_length_le (by simp;omega)]
 ·rw [Nat.min_eq_right (show xs.length<=a by omega),List.drop_length,List.take_nil,List.drop_of_length_le (by omega),List.take_nil]
theorem sX (h:screen d=true):rC d=true:=by
 cases d <;> first|(cases h;done)|skip
 rename_i xs
 match xs,h with
 | [],h=>cases h
 | [_],h=>cases h
 | [_,_],h=>cases h
 | a::b::c::e::l,h=>cases h
 | [a,r,p],h=>
  cases a <;> first|(cases h;done)|skip
  rename_i i
  cases r <;> first|(simp [screen,wu] at h;done)|skip
  rename_i rows
  simp only [screen,Bool.and_eq_true] at h
  obtain ⟨⟨h1,h2⟩,h3⟩:=h
  simp only [wu,Bool.and_eq_true,List.all_eq_true] at h2
  simp only [inB,Bool.and_eq_true,decide_eq_true_eq] at h1
  simp only [rC,Bool.and_eq_true,List.all_eq_true]
  refine ⟨⟨rfl,fun r hr=>?_⟩,?_⟩
  ·have q:=h2.2 r hr
   cases r <;> first|rfl|(cases q;done)|skip
   rename_i x
   simp only [yY,Bool.and_eq_true,beq_iff_eq] at q
   simp only [Gi,decide_eq_true_eq]
   have:=bJ
   omega
  ·cases p <;> first|(cases h3;done)|skip
   rename_i ps
   match ps,h3 with
   | [a,b],h3=>
    simp only [qp,Bool.and_eq_true] at h3
    show [a,b].all qT=true
    rw [List.all_eq_true]
    intro x hx
    rcases List.mem_cons.1 hx with rfl|hx
    ·cases x <;> first|rfl|exact absurd h3.1 (by simp [inB])
    ·rcases List.mem_cons.1 hx with rfl|hx
     ·cases x <;> first|rfl|exact absurd h3.2 (by simp [inB])
     ·cases hx
theorem qm (h:screen d=true):mi C [d]=.ok .non:=by
 show (if rC d=true then (if screen d=true then R.ok D.non else .ex C) else .no)=_
 rw [if_pos (sX h),if_pos h]
noncomputable def yO (b m r:Int):Bool:=decide (0<=b) && decide (b<=r - 1) && (decide (1<=m) && decide (m<=r - b))
theorem Hh {P:Prop} (h:∀ wd rows p,d=.tup [.int wd,.tup rows,p]->P) (h2:(∀ wd rows p,d ≠ .tup [.int wd,.tup rows,p])->P):P:=by
 by_cases e:∃ wd rows p,d=.tup [.int wd,.tup rows,p]
 ·obtain ⟨wd,rows,p,e⟩:=e;exact h wd rows p e
 ·exact h2 fun wd rows p q=>e ⟨wd,rows,p,q⟩
noncomputable def Gy (l w:Nat):D->D
 | .str x=>.str ((x.drop l).take w)
 | d=>d
noncomputable def Hg:List D->R D
 | [.tup [.int wd,.tup rows,p],.int t,.int l,.int h,.int w]=>if screen (.tup [.int wd,.tup rows,p])=true/\yO t h rows.length=true/\yO l w wd=true then .ok (.tup [.int w,.tup (((rows.drop t.toNat).take h.toNat).map (Gy l.toNat w.toNat)),.tup [.int 0,.int 0]]) else .no
 | _=>.no
theorem Cu {wd:Int} {rows:List D} {p:D} (h:screen (.tup [.int wd,.tup rows,p])=true):(1<=wd/\wd<=40)/\(1<=rows.length/\rows.length<=12)/\(∀ r∈rows,∃ x,r=.str x/\bt x=true/\(x.length:Int)=wd)/\qp p wd rows.length=true:=by
 simp only [screen,Bool.and_eq_true] at h
 obtain ⟨⟨h1,h2⟩,h3⟩:=h
 simp only [wu,Bool.and_eq_true,List.all_eq_true,decide_eq_true_eq] at h2
 simp only [inB,Bool.and_eq_true,decide_eq_true_eq] at h1
 refine ⟨h1,h2.1,fun r hr=>?_,h3⟩
 have q:=h2.2 r hr
 cases r <;> first|(cases q;done)|skip
 rename_i x
 simp only [yY,Bool.and_eq_true,beq_iff_eq] at q
 exact ⟨x,rfl,q.1,q.2⟩
noncomputable def pl (ns:List Int) (a:Nat) (wd m:Nat):D:=.tup [.int (BZ ns (a+400) m),.int (BZ ns (a+401) (wd+1))]
noncomputable abbrev St:=Nat×List (List Nat)×Nat×Nat
noncomputable def sD (s:St):D:=scr s.1 s.2.1 s.2.2.1 s.2.2.2
noncomputable def bp:St->Od->Option St
 | (wd,rows,r,c),.say x=>if wd<c+x.length then none else some (wd,rows.set r ((rows.getD r []).take c++x++(rows.getD r []).drop (c+x.length)),r,c+x.length)
 | (wd,rows,r,c),.go n k=>if rows.length<=n\/wd<k then none else some (wd,rows,n,k)
 | (wd,rows,r,c),.wipe=>some (wd,rows.set r ((rows.getD r []).take c++List.replicate (wd - c) 32),r,c)
structure GS (s:St):Prop where
 w1:1<=s.1
 w2:s.1<=40
 m:s.2.1.length<=12
 r:s.2.2.1<s.2.1.length
 c:s.2.2.2<=s.1
 l:∀ x∈s.2.1,x.length=s.1/\bt x=true
theorem GS.screen {s:St} (h:GS s):screen (sD s)=true:=by
 obtain ⟨wd,rows,r,c⟩:=s
 have h1:=h.w1
 have h2:=h.w2
 have h3:=h.m
 have h4:=h.r
 have h5:=h.c
 have h6:=h.l
 dsimp only at h1 h2 h3 h4 h5 h6
 have hf:wu (.tup (rows.map .str)) (wd:Int)=true:=by
  simp only [wu,List.length_map,Bool.and_eq_true,decide_eq_true_eq,List.all_eq_true]
  refine ⟨⟨by omega,by omega⟩,fun d hd=>?_⟩
  obtain ⟨x,hx,rfl⟩:=List.mem_map.1 hd
  obtain ⟨q1,q2⟩:=h6 x hx
  simp [yY,q1,q2]
 simp only [sD,scr,Q.screen,hf,qp,inB,List.length_map,Bool.and_eq_true,decide_eq_true_eq]
 refine ⟨⟨⟨by omega,by omega⟩,trivial⟩,?_⟩
 omega
noncomputable def Ek (C:Addr):Option St->R D
 | some s=>.ok (sD s)
 | none=>.ex C
theorem dH {x y:List Nat} (h1:bt x=true) (h2:bt y=true):bt (x++y)=true:=by
 simp only [bt,List.all_append,Bool.and_eq_true] at *;exact ⟨h1,h2⟩
theorem gN {x y:List Nat} (h:bt x=true) (hs:∀ c∈y,c∈x):bt y=true:=by
 simp only [bt,List.all_eq_true] at h ⊢;exact fun c hc=>h c (hs c hc)
theorem uw {α:Type} {l:List α} {a x:α} (h:x∈l.set i a):x=a\/x∈l:=by
 rcases List.mem_or_eq_of_mem_set h with h|h
 ·exact .inr h
 ·exact .inl h
theorem fF {rows:List (List Nat)} {r:Nat} (h:r<rows.length):rows.getD r []∈rows:=by
 rw [List.getD_eq_getElem?_getD,List.getElem?_eq_getElem h];exact List.getElem_mem h
theorem jC {s s':St} {o:Od} (h:GS s) (ho:okO o=true) (e:bp s o=some s'):GS s':=by
 obtain ⟨wd,rows,r,c⟩:=s
 have h1:=h.w1
 have h2:=h.w2
 have h3:=h.m
 have h4:=h.r
 have h5:=h.c
 have h6:=h.l
 dsimp only at h1 h2 h3 h4 h5 h6
 obtain ⟨g1,g2⟩:=h6 _ (fF h4)
 cases o with
 | say x=>
  simp only [okO,Bool.and_eq_true,decide_eq_true_eq] at ho
  by_cases hn:wd<c+x.length
  ·simp only [bp,hn,if_true] at e;cases e
  ·simp only [bp,hn,if_false] at e
   cases e
   refine ⟨h1,h2,by simpa using h3,by simpa using h4,by dsimp only;omega,fun y hy=>?_⟩
   rcases uw hy with rfl|hy
   ·refine ⟨by simp only [List.length_append,List.length_take,List.length_drop,List.length_replicate];omega,dH (dH (gN g2 fun c hc=>List.mem_of_mem_take hc) ho.1) (gN g2 fun c hc=>List.mem_of_mem_drop hc)⟩
   ·exact h6 y hy
 | go n k=>
  by_cases hn:rows.length<=n\/wd<k
  ·simp only [bp,hn,if_true] at e;cases e
  ·simp only [bp,hn,if_false] at e
   cases e
   exact ⟨h1,h2,h3,by dsimp only;omega,by dsimp only;omega,h6⟩
 | wipe=>
  simp only [bp] at e
  cases e
  refine ⟨h1,h2,by simpa using h3,by simpa using h4,h5,fun y hy=>?_⟩
  rcases uw hy with rfl|hy
  ·refine ⟨by simp only [List.length_append,List.length_take,List.length_drop,List.length_replicate];omega,dH (gN g2 fun c hc=>List.mem_of_mem_take hc) ?_⟩
   simp only [bt,List.all_eq_true]
   intro z hz
   rw [(List.mem_replicate.1 hz).2];decide
  ·exact h6 y hy
noncomputable def rn (a:Option St) (os:List Od):Option St:=os.foldl (fun a o=>a.bind fun s=>bp s o) a
theorem gX (a:Option St) (o:Od) (os:List Od):rn a (o::os)=rn (a.bind fun s=>bp s o) os:=rfl
theorem ir (a:Option St) (os ps:List Od):rn a (os++ps)=rn (rn a os) ps:=List.foldl_append ..
theorem fL:∀ os:List Od,rn none os=none
 | []=>rfl
 | _::os=>fL os
theorem zU:∀ (os:List Od) {s s':St},GS s->(∀ o∈os,okO o=true)->rn (some s) os=some s'->GS s'
 | [],s,s',h,_,e=>by cases e;exact h
 | o::os,s,s',h,ho,e=>by
  rw [gX,Option.bind_some] at e
  cases q:bp s o with
  | none=>rw [q,fL] at e;cases e
  | some s1=>
   rw [q] at e
   exact zU os (jC h (ho o (List.mem_cons_self ..)) q) (fun p hp=>ho p (List.mem_cons_of_mem _ hp)) e
noncomputable def K5 (os:List Od):Int:=((os.map bA).sum:Nat)
section
variable {Cs Co Cr Cp:Addr}
inductive Dd where
 | scroll (z:Int)
 | ord (o:Od)
end
section
variable {Ld Cs Co Cr:Addr}
theorem zH {n:Nat} {p:Addr} {fs:List (Nat×Fd)} (ho:ρ[i]?=some (some (.obj true C p fs))) (ha:gl ρ=.ok ds) (hl:ds.length=n) (hF:F fs ds=.ok d fs'):ja C i n F gl ρ=.re d (ρ.set i (some (.obj true C p fs'))):=by
 unfold ja GK
 rw [ho]
 dsimp only
 rw [if_pos rfl,R.ok_out,ha,R.ok_out]
 dsimp only
 rw [if_pos hl,hF];rfl
end
noncomputable def mj (aq aD:List D->R D):Ev->O:=(pP (aG 1 aq (ac (rvz 0) nlz)))
noncomputable def mU (aq aD:List D->R D):Ev->O:=(oIf (sN (gBn (az jx (az (iV (·=="list")) (rvz 1)))) (gB2 gtD (gOf eX (ac (rvz 1) nlz)) (gOf eX (ac (g2 ixD (rvz 0) (ciz 1)) nlz)))) (ay (cj (fun _=>R.ok (D.bl false))) oNx) oNx)
noncomputable def lx (aq aD:List D->R D):Ev->O:=(cj (gOf Bb (ac (bL (jl (az ca (rvz 1)) [0] (fun _=>R.ok true) (pi (aG 1 aD (ac (rvz 0) nlz)) (g2 leD (gOf eX (ac (rvz 0) nlz)) (g2 ixD (rvz 1) (ciz 0)))))) nlz)))
noncomputable def gA (aq aD:List D->R D):Ev->O:=(ay (mj aq aD) (ay (mU aq aD) (ay (lx aq aD) oNx)))
theorem jF:∀ xs:List (List Nat),iC (xs.map .str)=some xs
 | []=>rfl
 | x::xs=>by simp [iC,jF xs]
theorem lu:∀ {ds:List D} {xs:List (List Nat)},iC ds=some xs->ds=xs.map .str
 | [],xs,h=>by cases h;rfl
 | d::ds,xs,h=>by
  cases d <;> first|(cases h;done)|skip
  rename_i x
  cases q:iC ds with
  | none=>simp [iC,q] at h
  | some ys=>simp [iC,q] at h;subst h;rw [lu q];rfl
noncomputable def txt (m:Nat) (x:List Nat):Bool:=bt x && decide (x.length<=m)
theorem rH {x:List Nat} (h:x.length<=1000):lZ [.str x]=.ok (.bl (bt x)):=if_pos (Nat.le_trans h bJ)
theorem AD (m:Nat) (hm:m<=1000) (mm:Int) (hmm:mm=m) {xs:List (List Nat)} (h:∀ x∈xs,bt x=true/\x.length<=m) (tl:Ev) (g:Ev->R D) (hg:∀ a,g (a::tl)=.ok (.int mm)):fZ (fun _=>R.ok true) (pi (aG 1 lZ (ac (rvz 0) nlz)) (g2 leD (gOf eX (ac (rvz 0) nlz)) g)) (xs.map .str) (none::tl)=.ok ((xs.map D.str).map fun _=>.bl true):=by
 refine jm _ _ _ none fun d hd=>⟨rfl,?_⟩
 obtain ⟨x,hx,rfl⟩:=List.mem_map.1 hd
 obtain ⟨h1,h2⟩:=h x hx
 have p1:=rH (x:=x) (by omega)
 rw [h1] at p1
 have q1:decide ((x.length:Int)<=mm)=true:=by simp;omega
 have hg':=hg (some (.val (.str x)))
 clear hd hx h1 h2 h hg hmm hm
 walk_at "run"
theorem EF (f:Bool) (ds:List D):Bb [.lst f (ds.map fun _=>D.bl true)]=some (.bl true):=by
 have:=kX (fun _=>true) f ds
 rw [this];simp
theorem EL {x y:List D} (h:x.length+y.length<=sizeLine):ci (.lst false x) (.lst false y)=some (.lst false (x++y)):=by simp only [ci];rw [if_pos h]
noncomputable def bP (n wd:Nat) (xs:List (List Nat)):Bool:=decide (xs.length<=n) && xs.all (txt wd)
noncomputable def arF:List D->R D
 | [.tup [.int wd,.tup rows,p],.lst _ ds]=>match iC ds with
  | some xs=>if screen (.tup [.int wd,.tup rows,p])=true/\bP rows.length wd.toNat xs=true then .ok (.bl true) else .no
  | none=>.no
 | _=>.no
theorem su:∀ ds:List D,ds.length=2->arF ds=.no\/au (gA (mi C) lZ (ar 2 ds))=arF ds:=by
 intro ds hl
 match ds,hl with
 | [d,l],_=>
  refine Hh (d:=d) (fun wd rows p e=>?_) fun e=>Or.inl ?_
  ·subst e
   cases l <;> first|exact Or.inl rfl|skip
   rename_i f ds hl
   cases hs:iC ds with
   | none=>exact Or.inl (by simp only [arF,hs])
   | some xs=>
    by_cases hc:screen (.tup [.int wd,.tup rows,p])=true/\bP rows.length wd.toNat xs=true
    ·refine Or.inr ?_
     have e2:arF [.tup [.int wd,.tup rows,p],.lst f ds]=.ok (.bl true):=by simp only [arF,hs,hc,and_self,if_true]
     rw [e2]
     have:=lu hs
     subst this
     obtain ⟨hsc,hf⟩:=hc
     have c1:=qm (C:=C) hsc
     obtain ⟨⟨w1,w2⟩,⟨n1,n2⟩,hr,_⟩:=Cu hsc
     simp only [bP,txt,Bool.and_eq_true,decide_eq_true_eq,List.all_eq_true] at hf
     obtain ⟨hf1,hf2⟩:=hf
     have cmp:=AD wd.toNat (by omega) wd (by omega) hf2 [some (.val (.tup [.int wd,.tup rows,p]))] (g2 ixD (rvz 1) (ciz 0)) (fun _=>rfl)
     have lb:=bJ
     have z:((xs.map D.str).map fun _=>D.bl true).length<=sizeLine:=by simp;omega
     have al:=EF false (xs.map D.str)
     have i1:∀ (d:D) (v:Option Sl),jI [0] [some (.val d),v]=[none,some (.val d)]:=fun _ _=>rfl
     have q1:decide ((rows.length:Int)<((xs.map D.str).length:Int))=false:=by simp;omega
     have y1:iV (fun x=>x=="list") (.lst f (xs.map .str))=.ok (.bl true):=rfl
     have l1:=JT f (xs.map D.str)
     have x1:=Jy (.int wd) (.tup rows) p
     show au (ay _ _ [some (.val (.tup [.int wd,.tup rows,p])),some (.val (.lst f (xs.map .str)))])=_
     unfold mj mU lx
     clear hs e2 hsc hf1 hf2 w1 w2 n1 n2 hr lb
     walk_at "run"
    ·exact Or.inl (by simp only [arF,hs];exact if_neg hc)
  ·unfold arF
   split
   ·rename_i q;cases q;exact absurd rfl (e _ _ _)
   ·rfl
noncomputable def ES (rows:List D) (wd:Nat):Prop:=∀ r∈rows,∃ x,r=D.str x/\x.length=wd/\bt x=true
theorem zj {x y:List Nat} (h1:bt x=true) (h2:bt y=true):bt (x++y)=true:=by
 simp only [bt,List.all_append,Bool.and_eq_true] at *;exact ⟨h1,h2⟩
noncomputable def jn (cS:List D->R D) (bj:Addr):Ev->O:=(oIf (gBn (az jx (aG 2 cS (ac (rvz 0) (ac (rvz 1) nlz))))) (ay (iY bj (ac (csz [116,104,101,115,101,32,97,114,101,32,110,111,32,114,111,119,115,32,116,104,97,116,32,116,104,101,32,115,99,114,101,101,110,32,99,97,110,32,115,104,111,119]) nlz)) oNx) oNx)
noncomputable def eS (cS:List D->R D) (bj:Addr):Ev->O:=(ay (jn cS bj) oNx)
noncomputable def kz:Ev->O:=(fw 2 (g2 ixD (rvz 0) (ciz 0)))
noncomputable def kG:Ev->O:=(fw 3 (g2 yv (gOf eX (ac (g2 ixD (rvz 0) (ciz 1)) nlz)) (gOf eX (ac (rvz 1) nlz))))
noncomputable def jZ:Ev->O:=(cj (g2 ci (bL (jl (az ca (rvz 1)) [2] (fun _=>R.ok true) (we "str" gJ (rvz 0) (ac (rvz 1) nlz)))) (g2 jB (bL (qI (ac (g2 jB (csz [32]) (rvz 2)) nlz))) (rvz 3))))
noncomputable def fM:Ev->O:=(ay kz (ay kG (ay jZ oNx)))
noncomputable def crF:List D->R D
 | [.tup [.int wd,.tup rows,p],.lst _ ds]=>match iC ds with
  | some xs=>if screen (.tup [.int wd,.tup rows,p])=true/\bP rows.length wd.toNat xs=true then .ok .non else .no
  | none=>.no
 | _=>.no
theorem oP:∀ ds:List D,ds.length=2->crF ds=.no\/au (eS arF C (ar 2 ds))=crF ds:=by
 intro ds hl
 match ds,hl with
 | [d,l],_=>
  refine Hh (d:=d) (fun wd rows p e=>?_) fun e=>Or.inl ?_
  ·subst e
   cases l <;> first|exact Or.inl rfl|skip
   rename_i f ds hl
   cases hs:iC ds with
   | none=>exact Or.inl (by simp only [crF,hs])
   | some xs=>
    by_cases hc:screen (.tup [.int wd,.tup rows,p])=true/\bP rows.length wd.toNat xs=true
    ·refine Or.inr ?_
     have e1:crF [.tup [.int wd,.tup rows,p],.lst f ds]=.ok .non:=by simp only [crF,hs];exact if_pos hc
     have e2:arF [.tup [.int wd,.tup rows,p],.lst f ds]=.ok (.bl true):=by simp only [arF,hs];exact if_pos hc
     rw [e1]
     show au (ay _ _ [some (.val (.tup [.int wd,.tup rows,p])),some (.val (.lst f ds))])=_
     unfold jn
     clear hl hs hc e1
     walk_at "run"
     all_goals rfl
    ·exact Or.inl (by simp only [crF,hs];exact if_neg hc)
  ·unfold crF
   split
   ·rename_i q;cases q;exact absurd rfl (e _ _ _)
   ·rfl
noncomputable def zq (wd:Nat) (x:List Nat):List Nat:=x++List.replicate (wd - x.length) 32
noncomputable def nB (n wd:Nat) (xs:List (List Nat)):List D:=xs.map (fun x=>.str (zq wd x))++List.replicate (n - xs.length) (.str (List.replicate wd 32))
noncomputable def frF:List D->R D
 | [.tup [.int wd,.tup rows,_],.lst _ ds]=>match iC ds with
  | some xs=>if (0<=wd/\wd<=100)/\rows.length<=100/\bP rows.length wd.toNat xs=true then .ok (.lst false (nB rows.length wd.toNat xs)) else .no
  | none=>.no
 | _=>.no
theorem qx:∀ ds:List D,ds.length=2->frF ds=.no\/au (fM (ar 4 ds))=frF ds:=by
 intro ds hl
 match ds,hl with
 | [d,l],_=>
  refine Hh (d:=d) (fun wd rows p e=>?_) fun e=>Or.inl ?_
  ·subst e
   cases l <;> first|exact Or.inl rfl|skip
   rename_i f ds hl
   cases hs:iC ds with
   | none=>exact Or.inl (by simp only [frF,hs])
   | some xs=>
    by_cases hc:(0<=wd/\wd<=100)/\rows.length<=100/\bP rows.length wd.toNat xs=true
    ·refine Or.inr ?_
     have e1:frF [.tup [.int wd,.tup rows,p],.lst f ds]=.ok (.lst false (nB rows.length wd.toNat xs)):=by simp only [frF,hs];exact if_pos hc
     rw [e1]
     have hds:=lu hs
     subst hds
     obtain ⟨⟨w0,w1⟩,n1,hf⟩:=hc
     obtain ⟨wd,rfl⟩:=Int.eq_ofNat_of_zero_le w0
     simp only [Int.toNat_natCast] at hf ⊢
     simp only [bP,txt,Bool.and_eq_true,decide_eq_true_eq,List.all_eq_true] at hf
     have lb:=bJ
     show au (ay _ _ [some (.val (.tup [.int wd,.tup rows,p])),some (.val (.lst f (xs.map .str))),none,none])=_
     have x0:=K9
     have x1:=Jy
     have k1:((rows.length:Int) - ((xs.map D.str).length:Int))=((rows.length - xs.length:Nat):Int):=by rw [List.length_map];omega
     have m1:jB (.str [32]) (.int (wd:Int))=some (.str (List.replicate wd 32)):=Jd (by omega)
     have m2:jB (.lst false [.str (List.replicate wd 32)]) (.int ((rows.length - xs.length:Nat):Int))=some (.lst false (List.replicate (rows.length - xs.length) (.str (List.replicate wd 32)))):=H9 (by omega)
     have i2:jI [2] [some (.val (.tup [.int wd,.tup rows,p])),some (.val (.lst f (xs.map .str))),some (.val (.int (wd:Int))),some (.val (.int ((rows.length - xs.length:Nat):Int)))]=[none,some (.val (.int (wd:Int)))]:=rfl
     have e:fZ (fun _=>R.ok true) (we "str" gJ (rvz 0) (ac (rvz 1) nlz)) (xs.map .str) [none,some (.val (.int (wd:Int)))]=.ok (xs.map fun x=>.str (zq wd x)):=by
      have:=jm (gt:=fun _=>R.ok true) (ge:=we "str" gJ (rvz 0) (ac (rvz 1) nlz)) (fun d=>match d with|.str x=>.str (zq wd x)|d=>d) [some (.val (.int (wd:Int)))] (xs.map .str) none fun d hd=>⟨rfl,by
       obtain ⟨x,hx,rfl⟩:=List.mem_map.1 hd
       have j:gJ (.str x) [.int (wd:Int)]=some (.str (zq wd x)):=by
        simp only [gJ,zq,Int.toNat_natCast]
        rw [if_pos (by omega)]
       clear hl hs e1 hd hx hf
       walk_at "run"
       all_goals rfl⟩
      rw [this,List.map_map];rfl
     have il:=JT
     have z1:(xs.map fun x=>D.str (zq wd x)).length<=sizeLine:=by simp;omega
     have z2:(1:Nat)<=sizeLine:=by omega
     have a1:ci (.lst false (xs.map fun x=>.str (zq wd x))) (.lst false (List.replicate (rows.length - xs.length) (.str (List.replicate wd 32))))=some (.lst false (nB rows.length wd xs)):=EL (by simp;omega)
     unfold kz kG jZ
     clear hl hs e1 hf w0 w1 n1 lb
     walk_at "run"
    ·exact Or.inl (by simp only [frF,hs];exact if_neg hc)
  ·unfold frF
   split
   ·rename_i q;cases q;exact absurd rfl (e _ _ _)
   ·rfl
theorem jS (n c:Nat) (h:(decide (32<=c) && decide (c<=126))=true):bt (List.replicate n c)=true:=by
 simp only [bt,List.all_eq_true]
 intro x hx
 rw [(List.mem_replicate.1 hx).2];exact h
theorem vP {n wd:Nat} {xs:List (List Nat)} (h:bP n wd xs=true):ES (nB n wd xs) wd/\(nB n wd xs).length=n:=by
 simp only [bP,txt,Bool.and_eq_true,decide_eq_true_eq,List.all_eq_true] at h
 refine ⟨fun r hr=>?_,by simp [nB];omega⟩
 simp only [nB,List.mem_append,List.mem_map] at hr
 rcases hr with ⟨x,hx,rfl⟩|hr
 ·exact ⟨_,rfl,by simp [zq];have:=(h.2 x hx).2;omega,zj (h.2 x hx).1 (jS _ _ (by decide))⟩
 ·rw [(List.mem_replicate.1 hr).2]
  exact ⟨_,rfl,by simp,jS _ _ (by decide)⟩
noncomputable abbrev vL (f:Bool) (n:List Int):Option Sl:=some (.val (.lst f (n.map .int)))
noncomputable abbrev vI (n:Nat):Option Sl:=some (.val (.int (n:Int)))
noncomputable abbrev vD (d:D):Option Sl:=some (.val d)
noncomputable abbrev vS (x:List Nat):Option Sl:=some (.val (.str x))
noncomputable def Hn:List D->R D:=fun ds=>au (jO lZ (ar 1 ds))
noncomputable def goG:List D->R D:=fun ds=>au (lD zm (ar 1 ds))
noncomputable def IT:List D->R D:=fun ds=>au (gU Hn goG (ar 1 ds))
noncomputable def ckG (C:Addr):List D->R D:=fun ds=>au (dP IT C (ar 1 ds))
noncomputable def CD (C:Addr):List D->R D:=fun ds=>au (df (ckG C) C (ar 2 ds))
noncomputable def isS:Od->Bool
 | .say _=>true
 | _=>false
noncomputable def isG:Od->Bool
 | .go _ _=>true
 | _=>false
theorem IQ {o:Od} (h:okO o=true):Hn [oD o]=.ok (.bl (isS o)):=by
 cases o with
 | say x=>
  simp only [okO,Bool.and_eq_true,decide_eq_true_eq] at h
  have i1:lZ [.str x]=.ok (.bl true):=by rw [rH (by omega),h.1]
  have d1:decide ((1:Int)<=(x.length:Int))=true:=by rw [decide_eq_true_eq];omega
  have d2:decide ((x.length:Int)<=40)=true:=by rw [decide_eq_true_eq];omega
  have e1:eX [oD (.say x)]=some (.int 2):=rfl
  have e2:ixD (oD (.say x)) (.int 0)=some (.str [115,97,121]):=rfl
  have e3:ixD (oD (.say x)) (.int 1)=some (.str x):=rfl
  have q0:eqF (.str [115,97,121]) (.str [115,97,121])=some (.bl true):=rfl
  have q1:eqF (.int 2) (.int 2)=some (.bl true):=rfl
  show au (ay _ _ [vD (oD (.say x))])=.ok (.bl true)
  unfold qD
  clear h
  generalize oD (.say x)=u at *
  walk_at "run"
 | go r c=>rfl
 | wipe=>rfl
theorem K0 {o:Od} (h:okO o=true):goG [oD o]=.ok (.bl (isG o)):=by
 cases o with
 | go r c=>
  simp only [okO,Bool.and_eq_true,decide_eq_true_eq] at h
  have i1:zm [.int (r:Int),.int 0,.int 11]=.ok (.bl true):=by
   show R.ok (D.bl (decide (0<=(r:Int)) && decide ((r:Int)<=11)))=_
   rw [decide_eq_true (by omega),decide_eq_true (by omega)];rfl
  have i2:zm [.int (c:Int),.int 0,.int 40]=.ok (.bl true):=by
   show R.ok (D.bl (decide (0<=(c:Int)) && decide ((c:Int)<=40)))=_
   rw [decide_eq_true (by omega),decide_eq_true (by omega)];rfl
  have e1:eX [oD (.go r c)]=some (.int 3):=rfl
  have e2:ixD (oD (.go r c)) (.int 0)=some (.str [103,111]):=rfl
  have e3:ixD (oD (.go r c)) (.int 1)=some (.int (r:Int)):=rfl
  have e4:ixD (oD (.go r c)) (.int 2)=some (.int (c:Int)):=rfl
  have q0:neF (.str [103,111]) (.str [103,111])=some (.bl false):=rfl
  have q1:neF (.int 3) (.int 3)=some (.bl false):=rfl
  have q2:yv (.int 12) (.int 1)=some (.int 11):=rfl
  show au (ay _ _ [vD (oD (.go r c))])=.ok (.bl true)
  unfold vB uR
  clear h
  generalize oD (.go r c)=u at *
  walk_at "run"
 | say x=>rfl
 | wipe=>rfl
theorem IU {o:Od} (h:okO o=true):IT [oD o]=.ok (.bl true):=by
 have h1:=IQ h
 have h2:=K0 h
 have e1:iV (·=="tuple") (oD o)=.ok (.bl true):=by cases o <;> rfl
 have e2:mkT [.str [119,105,112,101]]=.ok (oD .wipe):=rfl
 have e3:eqF (oD .wipe) (oD .wipe)=some (.bl true):=rfl
 show au (ay _ _ [vD (oD o)])=_
 unfold lP mX
 clear h
 cases o with
 | say x=>change _=R.ok (D.bl true) at h1;generalize oD (.say x)=u at *;walk_at "run"
 | go r c=>change _=R.ok (D.bl false) at h1;change _=R.ok (D.bl true) at h2;generalize oD (.go r c)=u at *;walk_at "run"
 | wipe=>change _=R.ok (D.bl false) at h1;change _=R.ok (D.bl false) at h2;generalize oD .wipe=u at *;walk_at "run"
theorem KJ {o:Od} (h:okO o=true):ckG C [oD o]=.ok .non:=by
 have h1:=IU h
 show au (ay _ _ [vD (oD o)])=_
 unfold iy
 generalize oD o=u at *
 walk_at "run"
theorem Du {f:Bool} {os:List Od} (h:∀ o∈os,okO o=true):CD C [.lst f (os.map oD)]=.ok .non:=by
 have lp:∀ (os:List Od) (x1:Option Sl),(∀ o∈os,okO o=true)->∃ y1,dw (jA 1) (dR (ckG C) C) (os.map oD) [vD (.lst f (os.map oD)),x1]=.nx [vD (.lst f (os.map oD)),y1]:=fun os=>by
  generalize vD (.lst f (os.map oD))=x0
  induction os with
  | nil=>exact fun x1 _=>⟨x1,rfl⟩
  | cons o os ih=>
   intro x1 h
   obtain ⟨y1,e⟩:=ih (vD (oD o)) fun o ho=>h o (List.mem_cons_of_mem _ ho)
   refine ⟨y1,(gT (ρ2:=[x0,vD (oD o)]) rfl ?_).trans e⟩
   have h1:=KJ (C:=C) (h o (List.mem_cons_self ..))
   unfold dR
   generalize oD o=u at *
   clear h ih e
   walk_at "run"
 obtain ⟨y1,e⟩:=lp os none h
 have e1:iV (·=="list") (.lst f (os.map oD))=.ok (.bl true):=rfl
 have e2:ca (.lst f (os.map oD))=.ok (os.map oD):=rfl
 show au (ay _ _ [vD (.lst f (os.map oD)),none])=_
 unfold gO gG
 clear h lp
 walk_at "run"
noncomputable def ocG:List D->R D:=fun ds=>au (eP (ar 1 ds))
theorem JS (o:Od):ocG [oD o]=.ok (.int (bA o:Int)):=by cases o <;> rfl
noncomputable def coG (C:Addr):List D->R D:=fun ds=>au (pd (CD C) ocG (ar 1 ds))
theorem Bc {α:Type} {ge:Ev->R D} (f g:α->D) (tl:Ev):∀ (xs:List α) (a:Option Sl),(∀ x∈xs,ge (vD (f x)::tl)=.ok (g x))->fZ (fun _=>R.ok true) ge (xs.map f) (a::tl)=.ok (xs.map g)
 | [],_,_=>rfl
 | x::xs,a,h=>by
  have ih:=Bc (ge:=ge) f g tl xs (vD (f x)) fun y hy=>h y (List.mem_cons_of_mem _ hy)
  have h1:=h x (List.mem_cons_self ..)
  unfold fZ at ih ⊢
  rw [List.map_cons,List.map_cons,gD]
  show (gh (ge (vD (f x)::tl))>>=fun z=>gD (jA 0) (fun _=>R.ok true) ge (xs.map f) (vD (f x)::tl)>>=fun zs=>R.ok (z::zs))=_
  rw [h1,ih];rfl
theorem HB:∀ os:List Od,D6 [.lst false (os.map fun o=>D.int (bA o:Int))]=some (.int ((os.map bA).sum:Nat)):=fun os=>by
 have key:oW (os.map fun o=>D.int (bA o:Int))=some (os.map fun o=>(bA o:Int)):=by
  induction os with
  | nil=>rfl
  | cons o l ih=>rw [List.map_cons,oW,ih];rfl
 have key2:(os.map fun o=>(bA o:Int)).sum=((os.map bA).sum:Nat):=by
  clear key
  induction os with
  | nil=>rfl
  | cons o l ih=>rw [List.map_cons,List.sum_cons,ih,List.map_cons,List.sum_cons,Int.natCast_add]
 simp only [D6,key,key2]
theorem Jc {f:Bool} {os:List Od} (h:∀ o∈os,okO o=true) (hl:os.length<=1000):coG C [.lst f (os.map oD)]=.ok (.int ((os.map bA).sum:Nat)):=by
 have h1:=Du (C:=C) (f:=f) h
 have c1:=Bc (ge:=aG 1 ocG (ac (rvz 0) nlz)) oD (fun o=>.int (bA o:Int)) [] os none (fun o _=>by rw [xn,show ∀ i ρ,rvz i ρ=rdV ρ i from fun _ _=>rfl,rd0,R.ok_bind,JS])
 have e2:ca (.lst f (os.map oD))=.ok (os.map oD):=rfl
 have z:(os.map fun o=>D.int (bA o:Int)).length<=sizeLine:=by have:=bJ;rw [List.length_map];omega
 have sm:=HB os
 have i0:∀ x:Option Sl,jI [] [x]=[none]:=fun _=>rfl
 show au (ay _ _ [vD (.lst f (os.map oD))])=_
 unfold yo yU
 clear h hl
 walk_at "run"
noncomputable def jnG:List D->R D:=fun ds=>au (cJ (ar 3 ds))
theorem K2 {o p:Od} (hn:pZ o+pZ p<=1000):jnG [oD o,oD p]=.ok (jD (eT o p)):=by
 cases o with
 | say x=>
  cases p with
  | say y=>
   simp only [pZ] at hn
   have a1:ci (.str x) (.str y)=some (.str (x++y)):=xm (by have:=bJ;omega)
   have x0:∀ z:List Nat,ixD (oD (.say z)) (.int 0)=some (.str [115,97,121]):=fun _=>rfl
   have x1:∀ z:List Nat,ixD (oD (.say z)) (.int 1)=some (.str z):=fun _=>rfl
   have q0:neF (.str [115,97,121]) (.str [115,97,121])=some (.bl false):=rfl
   have m2:∀ v:List Nat,mkT [.str [115,97,121],.str v]=.ok (oD (.say v)):=fun _=>rfl
   have ej:eT (.say x) (.say y)=if x.length+y.length<=40 then some (.say (x++y)) else none:=rfl
   show au (ay _ _ [vD (oD (.say x)),vD (oD (.say y)),none])=_
   unfold fm fj eZ eY
   rw [ej]
   by_cases h:x.length+y.length<=40
   ·have d1:decide (((x++y).length:Int)<=40)=true:=by rw [decide_eq_true_eq,List.length_append];omega
    have e9:jD (if x.length+y.length<=40 then some (.say (x++y)) else none)=oD (.say (x++y)):=by rw [if_pos h];rfl
    rw [e9]
    clear hn h ej e9
    walk_at "run"
   ·have d1:decide (((x++y).length:Int)<=40)=false:=by rw [decide_eq_false_iff_not,List.length_append];omega
    have e9:jD (if x.length+y.length<=40 then some (.say (x++y)) else none)=.non:=by rw [if_neg h];rfl
    rw [e9]
    clear hn h ej e9
    walk_at "run"
  | go r c=>rfl
  | wipe=>rfl
 | go r c=>cases p <;> rfl
 | wipe=>cases p <;> rfl
theorem AH {l o j:Od} (h:eT l o=some j) (h1:okO l=true) (h2:okO o=true):okO j=true:=by
 cases l <;> cases o <;> first|(simp [eT] at h;done)|skip
 ·simp only [eT] at h
  split at h
  ·cases h
   simp only [okO,Bool.and_eq_true,decide_eq_true_eq] at *
   exact ⟨dH h1.1 h2.1,by simp;omega,by simp;omega⟩
  ·cases h
 ·simp only [eT,Option.some.injEq] at h;subst h;exact h2
 ·simp only [eT,Option.some.injEq] at h;subst h;exact h2
theorem oZ {acc:List Od} {o:Od} (h1:∀ p∈acc,okO p=true) (h2:okO o=true):∀ p∈dN acc o,okO p=true:=by
 rcases AC acc with rfl|⟨a,l,rfl⟩
 ·intro p hp
  rw [qC] at hp
  rw [List.mem_singleton.1 hp];exact h2
 ·cases hj:eT l o with
  | none=>
   intro p hp
   rw [jv hj] at hp
   rcases List.mem_append.1 hp with hp|hp
   ·exact h1 p hp
   ·rw [List.mem_singleton.1 hp];exact h2
  | some j=>
   intro p hp
   rw [hX hj] at hp
   rcases List.mem_append.1 hp with hp|hp
   ·exact h1 p (List.mem_append_left _ hp)
   ·rw [List.mem_singleton.1 hp];exact AH hj (h1 l (by simp)) h2
theorem uQ:∀ (os acc:List Od),(∀ p∈acc,okO p=true)->(∀ p∈os,okO p=true)->∀ p∈os.foldl dN acc,okO p=true
 | [],acc,h,_=>h
 | o::os,acc,h1,h2=>uQ os (dN acc o) (oZ h1 (h2 o (List.mem_cons_self ..))) fun p hp=>h2 p (List.mem_cons_of_mem _ hp)
theorem jp:∀ (os acc:List Od),(os.foldl dN acc).length<=acc.length+os.length/\((os.foldl dN acc).map bA).sum<=(acc.map bA).sum+(os.map bA).sum
 | [],acc=>by simp
 | o::os,acc=>by
  obtain ⟨_,a2,a3⟩:=vn acc o
  obtain ⟨b2,b3⟩:=jp os (dN acc o)
  simp only [List.foldl_cons,List.length_cons,List.map_cons,List.sum_cons]
  omega
theorem FK {os:List Od} (h:∀ o∈os,okO o=true):∀ o∈shO os,okO o=true:=uQ os [] (fun _ h=>by cases h) h
theorem BE {o:Od} (h:okO o=true):pZ o<=40:=by
 cases o with
 | say x=>simp only [okO,Bool.and_eq_true,decide_eq_true_eq] at h;exact h.2.2
 | _=>exact Nat.zero_le _
noncomputable def shG (C:Addr):List D->R D:=fun ds=>au (fA (CD C) jnG (ar 4 ds))
theorem Ei {F:List D->R D} (x0 x3:Option Sl) (acc:List Od) (o:Od) (hs:∀ p∈acc,okO p=true) (ho:okO o=true) (ha:acc.length<1000):∃ y3,eJ F jnG [x0,some (.own (acc.map oD)),vD (oD o),x3]=.nx [x0,some (.own ((dN acc o).map oD)),vD (oD o),y3]:=by
 have z:(acc.map oD).length<sizeLine:=by have:=bJ;rw [List.length_map];omega
 have f1:∀ (a0 a2 a3:Option Sl) (ds:List D),frz 1 [a0,some (.own ds),a2,a3]=[a0,some (.val (.lst false ds)),a2,a3]:=fun _ _ _ _=>rfl
 have o1:∀ (a0 a2 a3:Option Sl) (ds:List D),ownAt [a0,some (.own ds),a2,a3] 1=.ok ds:=fun _ _ _ _=>rfl
 have ng1:El (.int 1)=.ok (.int (-1)):=rfl
 have i1:isF .non .non=some (.bl true):=rfl
 have i2:∀ o:Od,isF (oD o) .non=some (.bl false):=fun o=>by cases o <;> rfl
 have fl1:=Jp
 have fl2:fl 10 .non=true:=rfl
 have e8:∀ i:Int,asI (.int i)=.ok i:=fun _=>rfl
 unfold eJ
 rcases AC acc with rfl|⟨a,l,rfl⟩
 ·exact ⟨vD .non,rfl⟩
 ·have em:(a++[l]).map oD=a.map oD++[oD l]:=by simp
  have ej:=K2 (o:=l) (p:=o) (by have:=BE (hs l (by simp));have:=BE ho;omega)
  rw [em] at z ⊢
  have q1:decide ((0:Int)<((a.map oD++[oD l]).length:Int))=true:=by rw [decide_eq_true_eq,List.length_append];show (0:Int)<((_+1:Nat):Int);omega
  have ixl:ixN (a.map oD++[oD l]).length (-1)=some (a.map oD).length:=by
   unfold ixN
   rw [if_neg (by omega),if_pos (by simp;omega)]
   congr 1;simp;omega
  have l1:ixD (.lst false (a.map oD++[oD l])) (.int (-1))=some (oD l):=by
   show atI (a.map oD++[oD l]) (-1)=_
   unfold atI
   rw [ixl];simp
  cases hj:eT l o with
  | none=>
   rw [hj] at ej
   change _=R.ok D.non at ej
   refine ⟨vD .non,?_⟩
   rw [show (dN (a++[l]) o).map oD=a.map oD++[oD l]++[oD o] by rw [jv hj];simp]
   clear ha hs em hj ho
   walk_at "run"
  | some j=>
   rw [hj] at ej
   change _=R.ok (oD j) at ej
   refine ⟨vD (oD j),?_⟩
   have sl:(a.map oD++[oD l]).set (a.map oD).length (oD j)=a.map oD++[oD j]:=by simp
   rw [show (dN (a++[l]) o).map oD=a.map oD++[oD j] by rw [hX hj];simp]
   clear ha hs em hj ho
   walk_at "run"
theorem Br {F:List D->R D} (x0:Option Sl):∀ (os acc:List Od) (x2 x3:Option Sl),(∀ p∈acc,okO p=true)->(∀ o∈os,okO o=true)->acc.length+os.length<=1000->∃ y2 y3,dw (jA 2) (eJ F jnG) (os.map oD) [x0,some (.own (acc.map oD)),x2,x3]=.nx [x0,some (.own ((os.foldl dN acc).map oD)),y2,y3]
 | [],acc,x2,x3,_,_,_=>⟨x2,x3,rfl⟩
 | o::os,acc,x2,x3,h1,h2,hl=>by
  have ho:=h2 o (List.mem_cons_self ..)
  rw [List.length_cons] at hl
  obtain ⟨y3,e⟩:=Ei (F:=F) x0 x3 acc o h1 ho (by omega)
  obtain ⟨z2,z3,ih⟩:=Br (F:=F) x0 os (dN acc o) (vD (oD o)) y3 (oZ h1 ho) (fun p hp=>h2 p (List.mem_cons_of_mem _ hp)) (by have:=(vn acc o).2.1;omega)
  exact ⟨z2,z3,(gT rfl e).trans ih⟩
theorem Lb {f:Bool} {os:List Od} (h:∀ o∈os,okO o=true) (hl:os.length<=1000):shG C [.lst f (os.map oD)]=.ok (.lst false ((shO os).map oD)):=by
 have h1:=Du (C:=C) (f:=f) h
 obtain ⟨y2,y3,e⟩:=Br (F:=CD C) (vD (.lst f (os.map oD))) os [] none none (fun _ h=>by cases h) h (by rw [List.length_nil];omega)
 have e2:ca (.lst f (os.map oD))=.ok (os.map oD):=rfl
 have f1:∀ (a0 a2 a3:Option Sl) (ds:List D),frz 1 [a0,some (.own ds),a2,a3]=[a0,some (.val (.lst false ds)),a2,a3]:=fun _ _ _ _=>rfl
 show au (ay _ _ [vD (.lst f (os.map oD)),none,none,none])=_
 unfold ke kn jY ky
 rw [List.map_nil] at e
 have z:(0<=sizeLine)=True:=eq_true (Nat.zero_le _)
 unfold shO
 clear h hl
 walk_at "run"
noncomputable def wrG:List D->R D:=fun ds=>au (cc (ar 5 ds))
noncomputable def asG (C:Addr):List D->R D:=fun ds=>au (fE wrG C (ar 5 ds))
noncomputable def agG (C:Addr):List D->R D:=fun ds=>au (gC C (ar 3 ds))
noncomputable def awG:List D->R D:=fun ds=>au (eR wrG (ar 3 ds))
noncomputable def aoG (C:Addr):List D->R D:=fun ds=>au (dJ (asG C) (agG C) awG (ar 2 ds))
noncomputable def adG (Cs Co Cr:Addr):List D->R D:=fun ds=>au (gR (mi Cs) (CD Co) (aoG Cr) (ar 4 ds))
section
variable {C:Addr} {wd r c:Nat} {rows:List (List Nat)}
theorem sx0:ixD (sD (wd,rows,r,c)) (.int 0)=some (.int (wd:Int)):=rfl
theorem sx1:ixD (sD (wd,rows,r,c)) (.int 1)=some (.tup (rows.map .str)):=rfl
theorem sx2:ixD (sD (wd,rows,r,c)) (.int 2)=some (.tup [.int (r:Int),.int (c:Int)]):=rfl
theorem rx0:ixD (.tup [.int (r:Int),.int (c:Int)]) (.int 0)=some (.int (r:Int)):=rfl
theorem rx1:ixD (.tup [.int (r:Int),.int (c:Int)]) (.int 1)=some (.int (c:Int)):=rfl
theorem Iy (hr:r<rows.length):ixD (.tup (rows.map .str)) (.int (r:Int))=some (.str (rows.getD r [])):=by
 refine Ju ?_
 rw [List.getElem?_map,List.getElem?_eq_getElem hr,List.getD_eq_getElem?_getD,List.getElem?_eq_getElem hr];rfl
theorem Li {x:List Nat} (hr:r<rows.length) (hm:rows.length<=100):wrG [sD (wd,rows,r,c),.str x,.int (j:Int)]=.ok (sD (wd,rows.set r x,r,j)):=by
 have x0:=sx0 (wd:=wd) (r:=r) (c:=c) (rows:=rows)
 have x1:=sx1 (wd:=wd) (r:=r) (c:=c) (rows:=rows)
 have x2:=sx2 (wd:=wd) (r:=r) (c:=c) (rows:=rows)
 have x3:=rx0 (r:=r) (c:=c)
 have c1:=wa (rows.map D.str) r
 have c2:jz (rows.map D.str) (some ((r:Int)+1)) none=(rows.map D.str).drop (r+1):=ue _ (r+1)
 have k1:∀ x,mkT [x]=.ok (.tup [x]):=fun _=>rfl
 have k2:∀ x y,mkT [x,y]=.ok (.tup [x,y]):=fun _ _=>rfl
 have k3:∀ x y z,mkT [x,y,z]=.ok (.tup [x,y,z]):=fun _ _ _=>rfl
 have a1:ci (.tup ((rows.map D.str).take r)) (.tup [.str x])=some (.tup ((rows.map D.str).take r++[.str x])):=FW (by have:=bJ;simp;omega)
 have a2:ci (.tup ((rows.map D.str).take r++[.str x])) (.tup ((rows.map D.str).drop (r+1)))=some (.tup ((rows.set r x).map D.str)):=by
  rw [<- AV rows r x hr];exact FW (by have:=bJ;simp;omega)
 show au (ay _ _ [vD (sD (wd,rows,r,c)),vD (.str x),vI j,none,none])=.ok (.tup [.int (wd:Int),.tup ((rows.set r x).map D.str),.tup [.int (r:Int),.int (j:Int)]])
 unfold dj dk di
 clear hr hm
 generalize sD (wd,rows,r,c)=S at *
 walk_at "run"
theorem Kg {s:St} {o:Od} (h:GS s) (ho:okO o=true):aoG C [sD s,oD o]=Ek C (bp s o):=by
 obtain ⟨wd,rows,r,c⟩:=s
 have hr:r<rows.length:=h.r
 have hm:rows.length<=12:=h.m
 have hc:c<=wd:=h.c
 have hw:wd<=40:=h.w2
 have hl:(rows.getD r []).length=wd:=(h.l _ (fF hr)).1
 have x0:=sx0 (wd:=wd) (r:=r) (c:=c) (rows:=rows)
 have x1:=sx1 (wd:=wd) (r:=r) (c:=c) (rows:=rows)
 have x2:=sx2 (wd:=wd) (r:=r) (c:=c) (rows:=rows)
 have x3:=rx0 (r:=r) (c:=c)
 have x4:=rx1 (r:=r) (c:=c)
 have x5:=Iy hr
 have wr:=fun x j=>Li (wd:=wd) (c:=c) (x:=x) (j:=j) hr (by omega)
 have n1:eqF (.str [103,111]) (.str [115,97,121])=some (.bl false):=rfl
 have n2:eqF (.str [119,105,112,101]) (.str [115,97,121])=some (.bl false):=rfl
 have n3:eqF (.str [119,105,112,101]) (.str [103,111])=some (.bl false):=rfl
 have n4:eqF (.str [103,111]) (.str [103,111])=some (.bl true):=rfl
 have n5:eqF (.str [115,97,121]) (.str [115,97,121])=some (.bl true):=rfl
 cases o with
 | say x=>
  simp only [okO,Bool.and_eq_true,decide_eq_true_eq] at ho
  have o0:ixD (oD (.say x)) (.int 0)=some (.str [115,97,121]):=rfl
  have o1:ixD (oD (.say x)) (.int 1)=some (.str x):=rfl
  have e:asG C [sD (wd,rows,r,c),.str x]=Ek C (bp (wd,rows,r,c) (.say x)):=by
   have es:bp (wd,rows,r,c) (.say x)=if wd<c+x.length then none else some (wd,rows.set r ((rows.getD r []).take c++x++(rows.getD r []).drop (c+x.length)),r,c+x.length):=rfl
   rw [es]
   have wx:=wr ((rows.getD r []).take c++x++(rows.getD r []).drop (c+x.length)) (c+x.length)
   clear es
   generalize rows.getD r []=row at *
   have c1:=wa row c
   have c2:=ue row (c+x.length)
   have a1:ci (.str (row.take c)) (.str x)=some (.str (row.take c++x)):=xm (by have:=bJ;simp;omega)
   have a2:ci (.str (row.take c++x)) (.str (row.drop (c+x.length)))=some (.str (row.take c++x++row.drop (c+x.length))):=xm (by have:=bJ;simp;omega)
   have a3:ci (.int (c:Int)) (.int (x.length:Int))=some (.int ((c+x.length:Nat):Int)):=rfl
   show au (ay _ _ [vD (sD (wd,rows,r,c)),vD (.str x),none,none,none])=_
   unfold jX kI kB ka kH
   clear wr h ho
   by_cases hn:wd<c+x.length
   ·have d1:decide ((wd:Int)<((c+x.length:Nat):Int))=true:=by rw [decide_eq_true_eq];omega
    rw [if_pos hn]
    show _=R.ex C
    generalize sD (wd,rows,r,c)=S at *
    clear hn hl hw hc hm hr wx c1
    walk_at "run"
   ·have d1:decide ((wd:Int)<((c+x.length:Nat):Int))=false:=by rw [decide_eq_false_iff_not];omega
    rw [if_neg hn]
    show _=R.ok (sD (wd,rows.set r (row.take c++x++row.drop (c+x.length)),r,c+x.length))
    generalize sD (wd,rows.set r (row.take c++x++row.drop (c+x.length)),r,c+x.length)=S' at *
    generalize sD (wd,rows,r,c)=S at *
    clear hn hl hw hc hm hr
    walk_at "run"
  show au (ay _ _ [vD (sD (wd,rows,r,c)),vD (oD (.say x))])=_
  unfold cV cX cU
  clear wr x5 hl hw hc hm hr h ho
  generalize bp (wd,rows,r,c) (.say x)=z at e ⊢
  generalize sD (wd,rows,r,c)=S at *
  generalize oD (.say x)=u at *
  cases z <;> simp only [Ek] at e ⊢ <;> walk_at "run"
 | go n k=>
  have o0:ixD (oD (.go n k)) (.int 0)=some (.str [103,111]):=rfl
  have o1:ixD (oD (.go n k)) (.int 1)=some (.int (n:Int)):=rfl
  have o2:ixD (oD (.go n k)) (.int 2)=some (.int (k:Int)):=rfl
  have e:agG C [sD (wd,rows,r,c),.int (n:Int),.int (k:Int)]=Ek C (bp (wd,rows,r,c) (.go n k)):=by
   have es:bp (wd,rows,r,c) (.go n k)=if rows.length<=n\/wd<k then none else some (wd,rows,n,k):=rfl
   have ln:eX [.tup (rows.map .str)]=some (.int (rows.length:Int)):=by rw [C6,List.length_map]
   have k2:mkT [.int (n:Int),.int (k:Int)]=.ok (.tup [.int (n:Int),.int (k:Int)]):=rfl
   have k3:mkT [.int (wd:Int),.tup (rows.map .str),.tup [.int (n:Int),.int (k:Int)]]=.ok (sD (wd,rows,n,k)):=rfl
   rw [es]
   show au (ay _ _ [vD (sD (wd,rows,r,c)),vI n,vI k])=_
   unfold lR lA
   clear wr es h x5 hl hw hc hm hr
   by_cases h1:rows.length<=n
   ·have d1:decide ((rows.length:Int)<=(n:Int))=true:=by rw [decide_eq_true_eq];omega
    rw [if_pos (.inl h1)]
    show _=R.ex C
    generalize sD (wd,rows,r,c)=S at *
    generalize rows.map D.str=R at *
    clear h1 k3
    walk_at "run"
   ·have d1:decide ((rows.length:Int)<=(n:Int))=false:=by rw [decide_eq_false_iff_not];omega
    by_cases h2:wd<k
    ·have d2:decide ((wd:Int)<(k:Int))=true:=by rw [decide_eq_true_eq];omega
     rw [if_pos (.inr h2)]
     show _=R.ex C
     generalize sD (wd,rows,r,c)=S at *
     generalize rows.map D.str=R at *
     clear h1 h2 k3
     walk_at "run"
    ·have d2:decide ((wd:Int)<(k:Int))=false:=by rw [decide_eq_false_iff_not];omega
     rw [if_neg (by omega)]
     show _=R.ok (sD (wd,rows,n,k))
     generalize sD (wd,rows,n,k)=S' at *
     generalize sD (wd,rows,r,c)=S at *
     generalize rows.map D.str=R at *
     clear h1 h2
     walk_at "run"
  show au (ay _ _ [vD (sD (wd,rows,r,c)),vD (oD (.go n k))])=_
  unfold cV cX cU
  clear wr x5 hl hw hc hm hr h ho
  generalize bp (wd,rows,r,c) (.go n k)=z at e ⊢
  generalize sD (wd,rows,r,c)=S at *
  generalize oD (.go n k)=u at *
  cases z <;> simp only [Ek] at e ⊢ <;> walk_at "run"
 | wipe=>
  have o0:ixD (oD .wipe) (.int 0)=some (.str [119,105,112,101]):=rfl
  have e:awG [sD (wd,rows,r,c)]=.ok (sD (wd,rows.set r ((rows.getD r []).take c++List.replicate (wd - c) 32),r,c)):=by
   have wx:=wr ((rows.getD r []).take c++List.replicate (wd - c) 32) c
   generalize rows.getD r []=row at *
   have c1:=wa row c
   have lt:(row.take c).length=c:=by simp;omega
   have j1:gJ (.str (row.take c)) [.int (wd:Int)]=some (.str (row.take c++List.replicate (wd - c) 32)):=by
    simp only [gJ,lt,Int.toNat_natCast];rw [if_pos (by omega)]
   have kd:∀ x,qF "str" (.str x)=true:=fun _=>rfl
   show au (ay _ _ [vD (sD (wd,rows,r,c)),none,none])=_
   unfold iM jw je
   generalize sD (wd,rows.set r (row.take c++List.replicate (wd - c) 32),r,c)=S' at *
   generalize sD (wd,rows,r,c)=S at *
   clear wr h hl hw hc hm hr lt
   walk_at "run"
  show au (ay _ _ [vD (sD (wd,rows,r,c)),vD (oD .wipe)])=.ok (sD (wd,rows.set r ((rows.getD r []).take c++List.replicate (wd - c) 32),r,c))
  unfold cV cX cU
  clear wr x5 hl hw hc hm hr h ho
  generalize sD (wd,rows.set r ((rows.getD r []).take c++List.replicate (wd - c) 32),r,c)=S' at *
  generalize sD (wd,rows,r,c)=S at *
  generalize oD .wipe=u at *
  walk_at "run"
theorem EK {f:Bool}:∀ (os:List Od) {s s':St} (x0 x1 x3:Option Sl) {F1 F2:List D->R D},GS s->(∀ o∈os,okO o=true)->rn (some s) os=some s'->∃ y3,dw (jA 3) (iz F1 F2 (aoG C)) (os.map oD) [x0,x1,vD (sD s),x3]=.nx [x0,x1,vD (sD s'),y3]
 | [],s,s',x0,x1,x3,_,_,_,_,e=>⟨x3,by cases e;rfl⟩
 | o::os,s,s',x0,x1,x3,F1,F2,h,ho,e=>by
  have h1:=ho o (List.mem_cons_self ..)
  have a:=Kg (C:=C) h h1
  rw [gX] at e
  cases z:bp s o with
  | none=>rw [show ((some s).bind fun s=>bp s o)=none from z,fL] at e;cases e
  | some t=>
   rw [show ((some s).bind fun s=>bp s o)=some t from z] at e
   rw [z] at a
   obtain ⟨y3,ih⟩:=EK (f:=f) os x0 x1 (vD (oD o)) (F1:=F1) (F2:=F2) (jC h h1 z) (fun o ho'=>ho o (List.mem_cons_of_mem _ ho')) e
   refine ⟨y3,(gT (ρ2:=[x0,x1,vD (sD t),vD (oD o)]) rfl ?_).trans ih⟩
   change _=R.ok (sD t) at a
   unfold iz
   generalize sD t=T at *
   generalize sD s=S at *
   generalize oD o=u at *
   clear ih ho h1 h e z
   walk_at "run"
theorem JL {Cs Co Cr:Addr} {s s':St} {f:Bool} (h:GS s) {os:List Od} (ho:∀ o∈os,okO o=true) (e:rn (some s) os=some s'):adG Cs Co Cr [sD s,.lst f (os.map oD)]=.ok (sD s'):=by
 have h1:=Du (C:=Co) (f:=f) ho
 have h2:=qm (C:=Cs) h.screen
 obtain ⟨y3,lp⟩:=EK (C:=Cr) (f:=f) os (vD (sD s)) (vD (.lst f (os.map oD))) none (F1:=mi Cs) (F2:=CD Co) h ho e
 have e2:ca (.lst f (os.map oD))=.ok (os.map oD):=rfl
 show au (ay _ _ [vD (sD s),vD (.lst f (os.map oD)),none,none])=_
 unfold me md lH mS lG
 generalize sD s=S at *
 clear h ho e
 walk_at "run"
end
noncomputable def qt:Ev->O:=(cj (g2 ixD (rvz 0) (ciz 0)))
noncomputable def fB:Ev->O:=(ay qt oNx)
noncomputable def uu (aE:List D->R D):Ev->O:=(oIf (sN (qb true 0 (rvz 1)) (gB2 ltD (aG 1 aE (ac (rvz 2) nlz)) (aG 1 aE (ac (gy 0 (rvz 1)) nlz)))) (ay (AO 0 (rvz 1) (rvz 2)) oNx) oNx)
noncomputable def fc (aE:List D->R D):Ev->O:=(ay (uu aE) oNx)
noncomputable def dM (I_offer:MF) (aV:List D->R D):Ev->O:=(dZ (ja DC 0 2 I_offer (ac (rvz 1) (ac (az mkT (ac (g2 ci (g2 ixD (rvz 2) (ciz 0)) (aG 1 aV (ac (rvz 3) nlz))) (ac (g2 ci (g2 ixD (rvz 2) (ciz 1)) (az mkT (ac (rvz 3) nlz))) nlz))) nlz))))
noncomputable def bi (I_offer:MF) (aV:List D->R D):Ev->O:=(ay (dM I_offer aV) oNx)
noncomputable def dB (I_offer_with_order:MF):Ev->O:=(oIf (qb false 3 (fun _=>R.ok (D.tup [D.bl false,D.bl false]))) (ay (dZ (ja DC 3 3 I_offer_with_order (ac (fun _=>R.ok (D.tup [D.bl true,D.bl false])) (ac (gy 3 (fun _=>R.ok (D.tup [D.bl false,D.bl false]))) (ac (az mkT (ac (csz [103,111]) (ac (rvz 1) (ac (rvz 2) nlz)))) nlz))))) oNx) oNx)
noncomputable def dl (I_offer_with_order:MF):Ev->O:=(oIf (qb false 3 (fun _=>R.ok (D.tup [D.bl true,D.bl false]))) (ay (dZ (ja DC 3 3 I_offer_with_order (ac (fun _=>R.ok (D.tup [D.bl true,D.bl true])) (ac (gy 3 (fun _=>R.ok (D.tup [D.bl true,D.bl false]))) (ac (az mkT (ac (csz [119,105,112,101]) nlz)) nlz))))) oNx) oNx)
noncomputable def dF (I_offer_with_order:MF):Ev->O:=(oIf (qb false 3 (fun _=>R.ok (D.tup [D.bl false,D.bl true]))) (ay (dZ (ja DC 3 3 I_offer_with_order (ac (fun _=>R.ok (D.tup [D.bl true,D.bl true])) (ac (gy 3 (fun _=>R.ok (D.tup [D.bl false,D.bl true]))) (ac (az mkT (ac (csz [103,111]) (ac (rvz 1) (ac (rvz 2) nlz)))) nlz))))) oNx) oNx)
noncomputable def jk (I_offer_with_order:MF):Ev->O:=(qX 3)
noncomputable def dv (I_offer_with_order:MF):Ev->O:=(ay (dB I_offer_with_order) (ay (dl I_offer_with_order) (ay (dF I_offer_with_order) (ay (jk I_offer_with_order) oNx))))
noncomputable def bT (I_offer_with_order:MF):Addr×Unit->Ev->O:=(zk 3 (rvz 0) (CI (dv I_offer_with_order)))
noncomputable def cM (I_offer_with_order I_offer:MF):Ev->O:=(ay (fw 6 (g2 ixD (rvz 4) (ciz 1))) (ay (oIf (az jx (g2 ixD (rvz 4) (ciz 0))) (ay (dZ (ja DC 3 3 I_offer_with_order (ac (az mkT (ac (fun _=>R.ok (D.bl true)) (ac (rvz 6) nlz))) (ac (rvz 5) (ac (az mkT (ac (csz [115,97,121]) (ac (rvz 2) nlz))) nlz))))) oNx) oNx) (ay (oIf (gB2 eqF (gIf (az jx (rvz 6)) (csz [32]) (rvz 1)) (rvz 2)) (ay (dZ (ja DC 3 2 I_offer (ac (az mkT (ac (fun _=>R.ok (D.bl false)) (ac (rvz 6) nlz))) (ac (rvz 5) nlz)))) oNx) oNx) oNx)))
noncomputable def cb (I_offer_with_order I_offer:MF):Ev->O:=(zr (Dh [4,5]) (az xk (rvz 0)) (cM I_offer_with_order I_offer))
noncomputable def dQ (I_offer_with_order I_offer:MF):Ev->O:=(qX 3)
noncomputable def lq (I_offer_with_order I_offer:MF):Ev->O:=(ay (cb I_offer_with_order I_offer) (ay (dQ I_offer_with_order I_offer) oNx))
noncomputable def bR (I_offer_with_order I_offer:MF):Addr×Unit->Ev->O:=(BG 3 (CI (lq I_offer_with_order I_offer)))
noncomputable def uo (bd aR:List D->R D):Ev->O:=(fw 5 (rvz 0))
noncomputable def li (bd aR:List D->R D):Ev->O:=(ay (fw 5 (aG 3 aR (ac (aG 3 bd (ac (rvz 5) (ac (rvz 1) (ac (rvz 6) nlz)))) (ac (g2 ixD (rvz 2) (rvz 6)) (ac (g2 ixD (rvz 3) (rvz 6)) nlz))))) oNx)
noncomputable def vj (bd aR:List D->R D):Ev->O:=(zr (jA 6) (az iB (ac (rvz 4) (ac (gOf eX (ac (rvz 2) nlz)) nlz))) (li bd aR))
noncomputable def vy (bd aR:List D->R D):Ev->O:=(cj (rvz 5))
noncomputable def mE (bd aR:List D->R D):Ev->O:=(ay (uo bd aR) (ay (vj bd aR) (ay (vy bd aR) oNx)))
noncomputable def sx (aE:List D->R D):Ev->O:=(cj (sL (bL (jl (az ca (rvz 1)) [0] (qb false 1 (rvz 0)) (gy 1 (rvz 0)))) aE))
noncomputable def gE (aE:List D->R D):Ev->O:=(ay (sx aE) oNx)
noncomputable def cP (bw aH:List D->R D):Ev->O:=(fw 3 (aG 5 bw (ac (gD1 (fun _=>R.ok (D.tup [D.bl false,D.bl false])) (fun _=>R.ok (D.tup [D.int 0,D.tup []]))) (ac (rvz 0) (ac (rvz 1) (ac (rvz 2) (ac (ciz 0) nlz)))))))
noncomputable def cN (bw aH:List D->R D):Ev->O:=(cj (aG 2 aH (ac (rvz 3) (ac (az mkT (ac (fun _=>R.ok (D.tup [D.bl false,D.bl false])) (ac (fun _=>R.ok (D.tup [D.bl true,D.bl false])) (ac (fun _=>R.ok (D.tup [D.bl false,D.bl true])) (ac (fun _=>R.ok (D.tup [D.bl true,D.bl true])) nlz))))) nlz))))
noncomputable def bO (bw aH:List D->R D):Ev->O:=(ay (cP bw aH) (ay (cN bw aH) oNx))
noncomputable def eI (bw aH:List D->R D):Ev->O:=(fw 4 (aG 5 bw (ac (gD1 (fun _=>R.ok (D.tup [D.bl true,D.bl false])) (fun _=>R.ok (D.tup [D.int 0,D.tup []]))) (ac (rvz 0) (ac (rvz 1) (ac (rvz 2) (ac (rvz 3) nlz)))))))
noncomputable def eM (bw aH:List D->R D):Ev->O:=(fw 5 (aG 2 aH (ac (rvz 4) (ac (az mkT (ac (fun _=>R.ok (D.tup [D.bl false,D.bl false])) (ac (fun _=>R.ok (D.tup [D.bl true,D.bl false])) (ac (fun _=>R.ok (D.tup [D.bl false,D.bl true])) (ac (fun _=>R.ok (D.tup [D.bl true,D.bl true])) nlz))))) nlz))))
noncomputable def dX (bw aH:List D->R D):Ev->O:=(fw 4 (aG 5 bw (ac (gD1 (fun _=>R.ok (D.tup [D.bl false,D.bl false])) (fun _=>R.ok (D.tup [D.int 0,D.tup []]))) (ac (rvz 0) (ac (gSl (rvz 1) (fun _=>R.ok none) (iK (rvz 3))) (ac (gSl (rvz 2) (fun _=>R.ok none) (iK (rvz 3))) (ac (ciz 0) nlz)))))))
noncomputable def eF (bw aH:List D->R D):Ev->O:=(fw 6 (aG 2 aH (ac (rvz 4) (ac (az mkT (ac (fun _=>R.ok (D.tup [D.bl false,D.bl false])) (ac (fun _=>R.ok (D.tup [D.bl true,D.bl false])) nlz))) nlz))))
noncomputable def el (bw aH:List D->R D):Ev->O:=(cj (az mkT (ac (g2 ci (g2 ixD (rvz 5) (ciz 0)) (g2 ixD (rvz 6) (ciz 0))) (ac (g2 ci (g2 ixD (rvz 5) (ciz 1)) (g2 ixD (rvz 6) (ciz 1))) nlz))))
noncomputable def cy (bw aH:List D->R D):Ev->O:=(ay (eI bw aH) (ay (eM bw aH) (ay (dX bw aH) (ay (eF bw aH) (ay (el bw aH) oNx)))))
noncomputable def dh (af aW aE:List D->R D):Ev->O:=(fw 4 (bL (qI (ac (aG 4 aW (ac (rvz 0) (ac (rvz 1) (ac (rvz 2) (ac (rvz 3) nlz))))) (ac (aG 3 af (ac (rvz 0) (ac (rvz 1) (ac (rvz 2) nlz)))) nlz)))))
noncomputable def dg (af aW aE:List D->R D):Ev->O:=(cj (sL (rvz 4) aE))
noncomputable def bZ (af aW aE:List D->R D):Ev->O:=(ay (dh af aW aE) (ay (dg af aW aE) oNx))
noncomputable def uP (aI aO:List D->R D) (ao af aN:List D->R D):Ev->O:=(pP (aG 2 aI (ac (rvz 0) (ac (rvz 1) nlz))))
noncomputable def uI (aI aO:List D->R D) (ao af aN:List D->R D):Ev->O:=(fw 2 (aG 2 aO (ac (rvz 0) (ac (rvz 1) nlz))))
noncomputable def uK (aI aO:List D->R D) (ao af aN:List D->R D):Ev->O:=(fw 3 (g2 ixD (g2 ixD (rvz 0) (ciz 2)) (ciz 0)))
noncomputable def uM (aI aO:List D->R D) (ao af aN:List D->R D):Ev->O:=(Gs 4 (CC (ac (g2 ixD (aG 4 ao (ac (rvz 3) (ac (g2 ixD (g2 ixD (rvz 0) (ciz 1)) (rvz 3)) (ac (g2 ixD (rvz 2) (rvz 3)) (ac (g2 ixD (g2 ixD (rvz 0) (ciz 2)) (ciz 1)) nlz))))) (ciz 1)) nlz)))
noncomputable def lh (aI aO:List D->R D) (ao af aN:List D->R D):Ev->O:=(ay (oIf (gB2 neF (rvz 5) (rvz 3)) (ay (D1 4 (g2 ixD (aG 3 af (ac (rvz 5) (ac (rvz 6) (ac (g2 ixD (rvz 2) (rvz 5)) nlz)))) (ciz 1))) oNx) oNx) oNx)
noncomputable def uW (aI aO:List D->R D) (ao af aN:List D->R D):Ev->O:=(zr (Dh [5,6]) (az yb (g2 ixD (rvz 0) (ciz 1))) (lh aI aO ao af aN))
noncomputable def vg (aI aO:List D->R D) (ao af aN:List D->R D):Ev->O:=(cj (aG 1 aN (ac (rvz 4) nlz)))
noncomputable def mW (aI aO:List D->R D) (ao af aN:List D->R D):Ev->O:=(ay (uP aI aO ao af aN) (ay (uI aI aO ao af aN) (ay (uK aI aO ao af aN) (ay (uM aI aO ao af aN) (ay (uW aI aO ao af aN) (Et 4 (ay (vg aI aO ao af aN) oNx)))))))
noncomputable def ji (bU cL:List D->R D):Ev->O:=(cj (aG 1 cL (ac (aG 2 bU (ac (rvz 0) (ac (rvz 1) nlz))) nlz)))
noncomputable def eW (bU cL:List D->R D):Ev->O:=(ay (ji bU cL) oNx)
noncomputable abbrev Ky:=Bool×Bool
noncomputable abbrev Pl:=Nat×List Od
noncomputable abbrev Mp:=List (Ky×Pl)
noncomputable def pD (p:Pl):D:=.tup [.int (p.1:Int),.tup (p.2.map oD)]
noncomputable def kD (k:Ky):D:=.tup [.bl k.1,.bl k.2]
noncomputable def kN (k:Ky):Nat:=code k.1 k.2
noncomputable def fsD (m:Mp):List (Nat×Fd):=m.map fun z=>(kN z.1,.val (pD z.2))
noncomputable def kvD (m:Mp):List (Nat×D):=m.map fun z=>(kN z.1,pD z.2)
noncomputable def dD (m:Mp):D:=.dct (m.map fun z=>kN z.1) (m.map fun z=>pD z.2)
noncomputable def vY (k:Ky) (p:Pl):Mp->Mp
 | []=>[(k,p)]
 | (j,x)::r=>if j=k then (j,p)::r else (j,x)::vY k p r
noncomputable def bF (m:Mp) (k:Ky) (p:Pl):Mp:=match m.lookup k with
 | none=>vY k p m
 | some q=>if p.1<q.1 then vY k p m else m
noncomputable def iT (p:Pl) (o:Od):Pl:=(p.1+bA o,p.2++[o])
theorem Bu {a b:Ky} (h:kN a=kN b):a=b:=by
 obtain ⟨a1,a2⟩:=a;obtain ⟨b1,b2⟩:=b
 revert h;cases a1 <;> cases a2 <;> cases b1 <;> cases b2 <;> simp [kN,code]
theorem lU (k:Ky):se (kD k)=some (kN k):=rfl
theorem td:∀ m:Mp,fvs (fsD m)=some (kvD m)
 | []=>rfl
 | z::m=>by
  show (fvs (fsD m)).map _=_
  rw [td m];rfl
theorem yf:∀ m:Mp,(m.map fun z=>kN z.1).zip (m.map fun z=>pD z.2)=kvD m
 | []=>rfl
 | z::m=>congrArg ((kN z.1,pD z.2)::·) (yf m)
theorem BD:∀ m:Mp,(m.map fun z=>kN z.1).zip ((m.map fun z=>pD z.2).map Fd.val)=fsD m
 | []=>rfl
 | z::m=>congrArg ((kN z.1,Fd.val (pD z.2))::·) (BD m)
theorem mT (k:Ky):∀ m:Mp,(kvD m).lookup (kN k)=(m.lookup k).map pD
 | []=>rfl
 | (j,x)::m=>by
  show List.lookup (kN k) ((kN j,pD x)::kvD m)=_
  rw [List.lookup_cons,List.lookup_cons]
  by_cases h:k=j
  ·subst h;rw [beq_self_eq_true,beq_self_eq_true];rfl
  ·rw [beq_eq_false_iff_ne.2 fun z=>h (Bu z),beq_eq_false_iff_ne.2 h]
   exact mT k m
theorem Bt (k:Ky) (p:Pl):∀ m:Mp,sf (kN k) (.val (pD p)) (fsD m)=fsD (vY k p m)
 | []=>rfl
 | (j,x)::m=>by
  show (if kN j=kN k then _ else _)=fsD (if j=k then _ else _)
  by_cases h:j=k
  ·subst h;rw [if_pos rfl,if_pos rfl];rfl
  ·rw [if_neg fun z=>h (Bu z),if_neg h]
   show (_,_)::sf _ _ (fsD m)=(_,_)::fsD _
   rw [Bt k p m]
theorem Cy (m:Mp):(fsD m).length=m.length:=by unfold fsD;simp
noncomputable def keys (m:Mp):List Ky:=m.map (·.1)
theorem KL:∀ a b c d e:Ky,¬ [a,b,c,d,e].Nodup:=by
 intro ⟨a1,a2⟩ ⟨b1,b2⟩ ⟨c1,c2⟩ ⟨d1,d2⟩ ⟨e1,e2⟩
 revert a1 a2 b1 b2 c1 c2 d1 d2 e1 e2
 decide
theorem few:∀ {l:List Ky},l.Nodup->l.length<=4
 | [],_=>by simp
 | [_],_=>by simp
 | [_,_],_=>by simp
 | [_,_,_],_=>by simp
 | [_,_,_,_],_=>by simp
 | a::b::c::d::e::r,h=>by
  exfalso
  have h':(a::b::c::d::e::r).take 5=[a,b,c,d,e]:=rfl
  exact KL a b c d e (h' ▸ h.sublist (List.take_sublist 5 _))
theorem jj {k:Ky} {p:Pl}:∀ {m:Mp},m.lookup k=some p->(k,p)∈m
 | (j,x)::m,e=>by
  rw [List.lookup_cons] at e
  by_cases q:k=j
  ·subst q;rw [beq_self_eq_true] at e;cases e;exact List.mem_cons_self ..
  ·rw [beq_eq_false_iff_ne.2 q] at e
   exact List.mem_cons_of_mem _ (jj e)
theorem vf {k:Ky} {p:Pl}:∀ {m:Mp},keys (vY k p m)=if k∈keys m then keys m else keys m++[k]
 | []=>rfl
 | (j,x)::m=>by
  show keys (if j=k then (j,p)::m else (j,x)::vY k p m)=_
  by_cases q:j=k
  ·rw [if_pos q,if_pos (by rw [<- q];exact List.mem_cons_self ..)];rfl
  ·rw [if_neg q]
   show j::keys (vY k p m)=if k∈j::keys m then j::keys m else j::keys m++[k]
   rw [vf]
   by_cases h:k∈keys m
   ·rw [if_pos h,if_pos (List.mem_cons_of_mem _ h)]
   ·rw [if_neg h,if_neg (fun z=>by rcases List.mem_cons.1 z with z|z;exact q z.symm;exact h z)];rfl
theorem rg {k:Ky} {p:Pl} {m:Mp} (h:(keys m).Nodup):(keys (vY k p m)).Nodup:=by
 rw [vf]
 split
 ·exact h
 ·rename_i q;rw [List.nodup_append]
  exact ⟨h,by simp,fun a ha b hb=>by rw [List.mem_singleton.1 hb];intro z;exact q (z ▸ ha)⟩
theorem sk {k:Ky} {p:Pl} {z:Ky×Pl}:∀ {m:Mp},z∈vY k p m->z∈m\/z=(k,p)
 | [],h=>.inr (List.mem_singleton.1 h)
 | (j,x)::m,h=>by
  replace h:z∈(if j=k then (j,p)::m else (j,x)::vY k p m):=h
  split at h
  ·rename_i q;subst q
   rcases List.mem_cons.1 h with h|h
   ·exact .inr h
   ·exact .inl (List.mem_cons_of_mem _ h)
  ·rcases List.mem_cons.1 h with h|h
   ·exact .inl (h ▸ List.mem_cons_self ..)
   ·rcases sk h with h|h
    ·exact .inl (List.mem_cons_of_mem _ h)
    ·exact .inr h
theorem oy {k j:Ky} {p:Pl}:∀ {m:Mp},(vY k p m).lookup j=if j=k then some p else m.lookup j
 | []=>by
  show List.lookup j [(k,p)]=_
  rw [List.lookup_cons]
  by_cases q:j=k
  ·rw [if_pos q,q,beq_self_eq_true]
  ·rw [if_neg q,beq_eq_false_iff_ne.2 q]
 | (i,x)::m=>by
  show List.lookup j (if i=k then (i,p)::m else (i,x)::vY k p m)=_
  by_cases q:i=k
  ·subst q
   rw [if_pos rfl,List.lookup_cons,List.lookup_cons]
   by_cases z:j=i
   ·rw [if_pos z,z,beq_self_eq_true]
   ·rw [if_neg z,beq_eq_false_iff_ne.2 z]
  ·rw [if_neg q,List.lookup_cons,List.lookup_cons]
   by_cases z:j=i
   ·rw [z,beq_self_eq_true];dsimp only;rw [if_neg q]
   ·rw [beq_eq_false_iff_ne.2 z];exact oy
theorem ic {m:Mp} {k j:Ky} {p:Pl}:(bF m k p).lookup j=if j=k then (match m.lookup k with
  | none=>some p
  | some q=>if p.1<q.1 then some p else some q) else m.lookup j:=by
 unfold bF
 cases e:m.lookup k with
 | none=>dsimp only;exact oy
 | some q=>
  dsimp only
  by_cases h:p.1<q.1
  ·rw [if_pos h,if_pos h];exact oy
  ·rw [if_neg h,if_neg h]
   by_cases z:j=k
   ·rw [if_pos z,z,e]
   ·rw [if_neg z]
theorem fH {m:Mp} {k:Ky} {p:Pl} (h:(keys m).Nodup):(keys (bF m k p)).Nodup:=by
 unfold bF
 split
 ·exact rg h
 ·split
  ·exact rg h
  ·exact h
theorem xB {m:Mp} {k:Ky} {p:Pl} {z:Ky×Pl} (h:z∈bF m k p):z∈m\/z=(k,p):=by
 unfold bF at h
 split at h
 ·exact sk h
 ·split at h
  ·exact sk h
  ·exact .inl h
noncomputable def All (P:Ky->Pl->Prop) (m:Mp):Prop:=∀ z∈m,P z.1 z.2
theorem All.offer {P:Ky->Pl->Prop} {m:Mp} {k:Ky} {p:Pl} (h:All P m) (hp:P k p):All P (bF m k p):=fun z hz=>by
 rcases xB hz with q|q
 ·exact h z q
 ·subst q;exact hp
theorem All.at {P:Ky->Pl->Prop} {m:Mp} {k:Ky} {p:Pl} (h:All P m) (e:m.lookup k=some p):P k p:=h _ (jj e)
noncomputable abbrev dO (q:Addr) (m:Mp):Option Sl:=some (.obj true DC q (fsD m))
theorem BJ {n:Nat} (h1:ge ρ=.ok d) (h2:se d=some n) (h3:qQ ρ i=.ok kv):qb neg i ge ρ=.ok (if neg then !(kv.lookup n).isSome else (kv.lookup n).isSome):=by
 unfold qb;rw [h1,R.ok_bind,h2,cu,R.ok_bind,h3,R.ok_bind]
theorem xM {v:D} {n:Nat} (h3:qQ ρ i=.ok kv) (h1:ge ρ=.ok d) (h2:se d=some n) (h4:kv.lookup n=some v):gy i ge ρ=.ok v:=by
 unfold gy;rw [h3,R.ok_bind,h1,R.ok_bind,h2]
 show ofO (kv.lookup n)=_
 rw [h4];rfl
theorem uL {b:Bool} {p:Addr} {m:Mp} (h:ρ[i]?=some (some (.obj b DC p (fsD m)))):qQ ρ i=.ok (kvD m):=by
 unfold qQ;rw [h];dsimp only;rw [if_pos rfl,td];rfl
theorem AQ {m:Mp} (h:ρ[i]?=some (vD (dD m))):qQ ρ i=.ok (kvD m):=by
 unfold qQ;rw [h];unfold dD;dsimp only;rw [yf]
theorem Cz {gk ga:Ev->R D} {m:Mp} {k:Ky} {p:Pl} (h:ρ[i]?=some (dO q m)) (hd:ga ρ=.ok (pD p)) (hk:gk ρ=.ok (kD k)) (hl:m.length<900) :
  AO i gk ga ρ=.nx (ρ.set i (dO q (vY k p m))):=by
 unfold AO
 rw [Dn h,R.ok_out,hd,lX,R.ok_out,hk,lX,R.ok_out,lU]
 dsimp only
 rw [if_pos (by rw [Cy];exact hl),Bt]
theorem xq {b:Bool} {m:Mp} {k:Ky} (h:ρ[i]?=some (some (.obj b DC q (fsD m)))) (hk:ge ρ=.ok (kD k)):qb neg i ge ρ=.ok (if neg then !(m.lookup k).isSome else (m.lookup k).isSome):=by
 rw [BJ hk (lU k) (uL h),mT,Option.isSome_map]
theorem uh {b:Bool} {m:Mp} {k:Ky} {p:Pl} (h:ρ[i]?=some (some (.obj b DC q (fsD m)))) (hk:ge ρ=.ok (kD k)) (e:m.lookup k=some p):gy i ge ρ=.ok (pD p):=
 xM (uL h) hk (lU k) (by rw [mT,e];rfl)
noncomputable def pcF:List D->R D:=fun ds=>au (fB (ar 1 ds))
theorem AU (p:Pl):pcF [pD p]=.ok (.int (p.1:Int)):=rfl
theorem uk (q:Addr) (m:Mp) (k:Ky) (p:Pl) (hl:m.length<900) :
  fc pcF [dO q m,vD (kD k),vD (pD p)]=.nx [dO q (bF m k p),vD (kD k),vD (pD p)]:=by
 unfold fc uu
 have h1:=xq (neg:=true) (i:=0) (ge:=fun ρ=>rdV ρ 1) (ρ:=[dO q m,vD (kD k),vD (pD p)]) (k:=k) rfl rfl
 have h2:=Cz (i:=0) (gk:=fun ρ=>rdV ρ 1) (ga:=fun ρ=>rdV ρ 2) (ρ:=[dO q m,vD (kD k),vD (pD p)]) (k:=k) (p:=p) rfl rfl rfl hl
 have h3:=AU p
 unfold bF
 cases e:m.lookup k with
 | none=>
  rw [e] at h1
  dsimp only [Option.isSome_none,Bool.not_false,if_true] at h1
  clear e hl
  walk_at "run"
 | some p0=>
  rw [e] at h1
  have h4:=uh (i:=0) (ge:=fun ρ=>rdV ρ 1) (ρ:=[dO q m,vD (kD k),vD (pD p)]) rfl rfl e
  have h5:=AU p0
  dsimp only [Option.isSome_some,Bool.not_true,if_true] at h1
  have h6:ltD (.int (p.1:Int)) (.int (p0.1:Int))=some (.bl (decide (p.1<p0.1))):=by
   show some (D.bl (decide ((p.1:Int)<(p0.1:Int))))=_
   rw [show decide ((p.1:Int)<(p0.1:Int))=decide (p.1<p0.1) from decide_eq_decide.2 Int.ofNat_lt]
  clear e hl
  by_cases h:p.1<p0.1
  ·rw [decide_eq_true h] at h6
   dsimp only
   rw [if_pos h]
   clear h
   walk_at "run"
  ·rw [decide_eq_false h] at h6
   dsimp only
   rw [if_neg h]
   clear h
   walk_at "run"
noncomputable def K7 (ρ:Ev):RM:=match (ρ[0]?:Option (Option Sl)) with
 | some (some (.obj _ _ _ fs))=>.ok .non fs
 | _=>.no
noncomputable def GM (o:O):RM:=match o with
 | .nx ρ=>K7 ρ
 | _=>.no
open Classical in
noncomputable def cF:MF:=fun fs ds=>if ∃ m k p,fs=fsD m/\ds=[kD k,pD p]/\m.length<900 then GM (fc pcF (eG true DC 0 fs 3 ds)) else .no
theorem ox {m:Mp} (k:Ky) (p:Pl) (hl:m.length<900):cF (fsD m) [kD k,pD p]=.ok .non (fsD (bF m k p)):=by
 unfold cF
 rw [if_pos ⟨m,k,p,rfl,rfl,hl⟩]
 show GM (fc pcF [some (.obj true DC 0 (fsD m)),vD (kD k),vD (pD p)])=_
 rw [uk 0 m k p hl];rfl
theorem AK:qN DC (fc pcF) 3 cF:=by
 intro q fs ds
 by_cases h:∃ m k p,fs=fsD m/\ds=[kD k,pD p]/\m.length<900
 ·obtain ⟨m,k,p,rfl,rfl,hl⟩:=h
  rw [ox k p hl]
  exact ⟨_,rfl,.inr ⟨uk q m k p hl,rfl⟩⟩
 ·have e:cF fs ds=.no:=by unfold cF;exact if_neg h
  rw [e];trivial
theorem Ab {n:Nat} {p:Addr} {fs:List (Nat×Fd)} (ho:ρ[i]?=some (some (.obj true C p fs))) (ha:gl ρ=.ok ds) (hl:ds.length=n) (hF:F fs ds=.ok d fs'):dZ (ja C i n F gl) ρ=.nx (ρ.set i (some (.obj true C p fs'))):=by
 unfold dZ;rw [zH ho ha hl hF];rfl
theorem He {p:Pl} {o:Od} (h:p.2.length<900):ci (.tup (p.2.map oD)) (.tup [oD o])=some (.tup ((p.2++[o]).map oD)):=by
 have h1:1000<=sizeLine:=by decide
 show (if _ then _ else _)=_
 rw [if_pos (by simp;omega)]
 simp
theorem Bp (q:Addr) (m:Mp) (k:Ky) (p:Pl) (o:Od) (hl:m.length<900) (hp:p.2.length<900) :
  bi cF ocG [dO q m,vD (kD k),vD (pD p),vD (oD o)]=.nx [dO q (bF m k (iT p o)),vD (kD k),vD (pD p),vD (oD o)]:=by
 unfold bi dM
 show (dZ (ja DC 0 2 cF _) _).seq _=_
 rw [Ab (n:=2) (ds:=[kD k,pD (iT p o)]) (d:=.non) (fs':=fsD (bF m k (iT p o))) rfl ?_ rfl (ox k (iT p o) hl)]
 ·rfl
 ·have h1:=JS o
  have h2:=He (p:=p) (o:=o) hp
  have h3:ixD (pD p) (.int 0)=some (.int (p.1:Int)):=rfl
  have h4:ixD (pD p) (.int 1)=some (.tup (p.2.map oD)):=rfl
  have h5:ci (.int (p.1:Int)) (.int (bA o:Int))=some (.int ((p.1+bA o:Nat):Int)):=rfl
  have h6:mkT [oD o]=.ok (.tup [oD o]):=rfl
  have h7:mkT [.int ((p.1+bA o:Nat):Int),.tup ((p.2++[o]).map oD)]=.ok (pD (iT p o)):=rfl
  clear hl hp
  walk_at "run"
open Classical in
noncomputable def jy:MF:=fun fs ds=>if ∃ m k p o,fs=fsD m/\ds=[kD k,pD p,oD o]/\m.length<900/\p.2.length<900 then GM (bi cF ocG (eG true DC 0 fs 4 ds)) else .no
theorem yC {m:Mp} (k:Ky) {p:Pl} (o:Od) (hl:m.length<900) (hp:p.2.length<900):jy (fsD m) [kD k,pD p,oD o]=.ok .non (fsD (bF m k (iT p o))):=by
 unfold jy
 rw [if_pos ⟨m,k,p,o,rfl,rfl,hl,hp⟩]
 show GM (bi cF ocG [some (.obj true DC 0 (fsD m)),vD (kD k),vD (pD p),vD (oD o)])=_
 rw [Bp 0 m k p o hl hp];rfl
theorem iE:qN DC (bi cF ocG) 4 jy:=by
 intro q fs ds
 by_cases h:∃ m k p o,fs=fsD m/\ds=[kD k,pD p,oD o]/\m.length<900/\p.2.length<900
 ·obtain ⟨m,k,p,o,rfl,rfl,hl,hp⟩:=h
  rw [yC k o hl hp]
  exact ⟨_,rfl,.inr ⟨Bp q m k p o hl hp,rfl⟩⟩
 ·have e:jy fs ds=.no:=by unfold jy;exact if_neg h
  rw [e];trivial
noncomputable def move (m:Mp) (a b:Ky) (o:Od):Mp:=match m.lookup a with
 | some p=>bF m b (iT p o)
 | none=>m
noncomputable def dL (m:Mp) (n c:Nat):Mp:=move (move (move m (false,false) (true,false) (.go n c)) (true,false) (true,true) .wipe) (false,true) (true,true) (.go n c)
noncomputable def Len (J:Nat) (m:Mp):Prop:=All (fun _ p=>p.2.length<=J) m
theorem Len.mono {K:Nat} {m:Mp} (h:Len J m) (l:J<=K):Len K m:=fun z hz=>Nat.le_trans (h z hz) l
theorem Len.move {J:Nat} {m:Mp} (h:Len J m) (a b:Ky) (o:Od):Len (J+1) (move m a b o):=by
 unfold Q.move
 cases e:m.lookup a with
 | none=>exact h.mono (Nat.le_succ _)
 | some p=>exact All.offer (h.mono (Nat.le_succ _)) (by have:=All.at h e;simp only [iT,List.length_append,List.length_singleton];omega)
theorem nG {m:Mp} (h:(keys m).Nodup) (a b:Ky) (o:Od):(keys (move m a b o)).Nodup:=by
 unfold move
 split
 ·exact fH h
 ·exact h
theorem CQ {m:Mp} (h:(keys m).Nodup):m.length<=4:=by have:=few h;rwa [keys,List.length_map] at this
theorem tz {x0 x1 x2:Option Sl} {m:Mp} (a b:Ky) {o:Od} {go:Ev->R D} (hgo:go [x0,x1,x2,dO q m]=.ok (oD o)) (hn:(keys m).Nodup) (hp:Len J m) (hJ:J<900) :
  oIf (qb false 3 (fun _=>R.ok (kD a))) (ay (dZ (ja DC 3 3 jy (ac (fun _=>R.ok (kD b)) (ac (gy 3 (fun _=>R.ok (kD a))) (ac go nlz))))) oNx) oNx [x0,x1,x2,dO q m] =
   .nx [x0,x1,x2,dO q (move m a b o)]:=by
 have h1:=xq (neg:=false) (i:=3) (ge:=fun _=>R.ok (kD a)) (ρ:=[x0,x1,x2,dO q m]) (k:=a) rfl rfl
 have hl:=CQ hn
 unfold move
 cases e:m.lookup a with
 | none=>
  rw [e] at h1
  dsimp only [Option.isSome_none,Bool.false_eq_true,if_false] at h1 ⊢
  clear e hl hp
  walk_at "run"
 | some p=>
  rw [e] at h1
  dsimp only [Option.isSome_some,Bool.false_eq_true,if_false] at h1 ⊢
  have h2:=uh (i:=3) (ge:=fun _=>R.ok (kD a)) (ρ:=[x0,x1,x2,dO q m]) rfl rfl e
  have h4:dZ (ja DC 3 3 jy (ac (fun _=>R.ok (kD b)) (ac (gy 3 (fun _=>R.ok (kD a))) (ac go nlz)))) [x0,x1,x2,dO q m]=.nx [x0,x1,x2,dO q (bF m b (iT p o))]:=by
   refine Ab (ds:=[kD b,pD p,oD o]) (d:=.non) rfl ?_ rfl (yC b o (by omega) (by have:=All.at hp e;omega))
   clear hl hp e h1
   walk_at "run"
  clear e hl hp h2 hgo
  walk_at "run"
theorem yu {m:Mp} (h:ρ[i]?=some (dO q m)):qX i ρ=.rt (dD m):=by
 unfold qX;rw [h];dsimp only;rw [if_pos rfl,td]
 show O.rt (.dct ((kvD m).map (·.1)) ((kvD m).map (·.2)))=_
 unfold kvD dD;simp only [List.map_map];rfl
theorem FX (q:Addr×Unit) {m:Mp} (n c:Nat) (hm:m≠[]) (hn:(keys m).Nodup) (hp:Len J m) (hJ:J<890):bT jy q (ar 4 [dD m,.int (n:Int),.int (c:Int)])=.rt (dD (dL m n c)):=by
 have h0:bT jy q (ar 4 [dD m,.int (n:Int),.int (c:Int)])=dv jy [vD (dD m),vI n,vI c,some (.obj true DC q.1 (fsD m))]:=by
  cases m with
  | nil=>exact absurd rfl hm
  | cons z r=>
   show dv jy [_,_,_,some (.obj true DC q.1 ((((z::r:Mp).map fun z=>kN z.1)).zip ((((z::r:Mp).map fun z=>pD z.2)).map Fd.val)))]=_
   rw [BD]
 rw [h0]
 have h1:=tz (x0:=vD (dD m)) (x1:=vI n) (x2:=vI c) (q:=q.1) (false,false) (true,false) (o:=.go n c) (go:=az mkT (ac (csz [103,111]) (ac (rvz 1) (ac (rvz 2) nlz)))) rfl hn hp (by omega)
 have n1:=nG hn (false,false) (true,false) (.go n c)
 have l1:=hp.move (false,false) (true,false) (.go n c)
 have h2:=tz (x0:=vD (dD m)) (x1:=vI n) (x2:=vI c) (q:=q.1) (true,false) (true,true) (o:=.wipe) (go:=az mkT (ac (csz [119,105,112,101]) nlz)) rfl n1 l1 (by omega)
 have n2:=nG n1 (true,false) (true,true) .wipe
 have l2:=l1.move (true,false) (true,true) .wipe
 have h3:=tz (x0:=vD (dD m)) (x1:=vI n) (x2:=vI c) (q:=q.1) (false,true) (true,true) (o:=.go n c) (go:=az mkT (ac (csz [103,111]) (ac (rvz 1) (ac (rvz 2) nlz)))) rfl n2 l2 (by omega)
 unfold dv
 show (dB jy _).seq _=_
 rw [show dB jy _=_ from h1]
 show (dl jy _).seq _=_
 rw [show dl jy _=_ from h2]
 show (dF jy _).seq _=_
 rw [show dF jy _=_ from h3]
 show (qX 3 _).seq _=_
 rw [yu (q:=q.1) (m:=dL m n c) rfl];rfl
open Classical in
noncomputable def wmF:List D->R D:=fun ds=>if ∃ m,∃ n c:Nat,ds=[dD m,.int (n:Int),.int (c:Int)]/\m≠[]/\(keys m).Nodup/\Len 880 m then au (bT jy (0,()) (ar 4 ds)) else .no
theorem E8 {m:Mp} (n c:Nat) (hm:m≠[]) (hn:(keys m).Nodup) (hp:Len J m) (hJ:J<=880):wmF [dD m,.int (n:Int),.int (c:Int)]=.ok (dD (dL m n c)):=by
 unfold wmF
 rw [if_pos ⟨m,n,c,rfl,hm,hn,hp.mono hJ⟩,FX _ n c hm hn hp (by omega)];rfl
theorem oe:∀ ds:List D,ds.length=3->wmF ds=.no\/∀ q,au (bT jy q (ar 4 ds))=wmF ds:=by
 intro ds _
 by_cases h:∃ m,∃ n c:Nat,ds=[dD m,.int (n:Int),.int (c:Int)]/\m≠[]/\(keys m).Nodup/\Len 880 m
 ·obtain ⟨m,n,c,rfl,hm,hn,hp⟩:=h
  refine .inr fun q=>?_
  rw [E8 n c hm hn hp (Nat.le_refl _),FX q n c hm hn hp (by omega)];rfl
 ·exact .inl (by unfold wmF;exact if_neg h)
noncomputable def und (old:Nat) (b:Bool):Nat:=match b with
 | true=>32
 | false=>old
theorem gz {g h:Ev->O} {ρ1:Ev} (e:g ρ=.nx ρ1):ay g h ρ=h ρ1:=by show (g ρ).seq h=_;rw [e];rfl
noncomputable def sovK (old new:Nat) (acc:Mp) (z:Ky×Pl):Mp:=
 let a1:=if z.1.1=true then bF acc (true,z.1.2) (iT z.2 (.say [new])) else acc
 if und old z.1.2=new then bF a1 (false,z.1.2) z.2 else a1
noncomputable def xU (old new:Nat) (m:Mp):Mp:=m.foldl (sovK old new) []
theorem nN {old new:Nat} {acc:Mp} {z:Ky×Pl} (h:(keys acc).Nodup):(keys (sovK old new acc z)).Nodup:=by
 unfold sovK
 have h1:(keys (if z.1.1=true then bF acc (true,z.1.2) (iT z.2 (.say [new])) else acc)).Nodup:=by
  split
  ·exact fH h
  ·exact h
 dsimp only
 split
 ·exact fH h1
 ·exact h1
theorem lg {α:Type} {P:Mp->Prop} {f:Mp->α->Mp}:∀ {l:List α} {a:Mp},P a->(∀ a x,x∈l->P a->P (f a x))->P (l.foldl f a)
 | [],_,h,_=>h
 | x::l,a,h,H=>lg (l:=l) (H a x (List.mem_cons_self ..) h) fun a y hy=>H a y (List.mem_cons_of_mem _ hy)
theorem wv {old new:Nat} {m:Mp}:(keys (xU old new m)).Nodup:=lg (P:=fun m=>(keys m).Nodup) List.Pairwise.nil fun _ _ _ h=>nN h
theorem oT {old new:Nat} {m:Mp} {P R:Ky->Pl->Prop} (h:All P m) (h1:∀ k p,P k p->k.1=true->R (true,k.2) (iT p (.say [new]))) (h2:∀ k p,P k p->und old k.2=new->R (false,k.2) p):All R (xU old new m):=by
 refine lg (P:=All R) (fun z hz=>nomatch hz) fun a x hx ha=>?_
 unfold sovK
 dsimp only
 have g1:All R (if x.1.1=true then bF a (true,x.1.2) (iT x.2 (.say [new])) else a):=by
  split
  ·rename_i q;exact All.offer ha (h1 _ _ (h x hx) q)
  ·exact ha
 split
 ·rename_i q;exact All.offer g1 (h2 _ _ (h x hx) q)
 ·exact g1
theorem yw {x0 x6:Option Sl} {acc:Mp} (old new:Nat) (k:Ky) (p:Pl) (hn:(keys acc).Nodup) (hp:p.2.length<900) :
  cM jy cF [x0,vS [old],vS [new],dO q acc,vD (kD k),vD (pD p),x6] =
   .nx [x0,vS [old],vS [new],dO q (sovK old new acc (k,p)),vD (kD k),vD (pD p),vD (.bl k.2)]:=by
 obtain ⟨k1,k2⟩:=k
 unfold cM sovK
 have i1:ixD (kD (k1,k2)) (.int 1)=some (.bl k2):=rfl
 have i0:ixD (kD (k1,k2)) (.int 0)=some (.bl k1):=rfl
 have fin:∀ a1:Mp,(keys a1).Nodup->oIf (gB2 eqF (gIf (az jx (rvz 6)) (csz [32]) (rvz 1)) (rvz 2)) (ay (dZ (ja DC 3 2 cF (ac (az mkT (ac (fun _=>R.ok (D.bl false)) (ac (rvz 6) nlz))) (ac (rvz 5) nlz)))) oNx) oNx
   [x0,vS [old],vS [new],dO q a1,vD (kD (k1,k2)),vD (pD p),vD (.bl k2)] =
   .nx [x0,vS [old],vS [new],dO q (if und old k2=new then bF a1 (false,k2) p else a1),vD (kD (k1,k2)),vD (pD p),vD (.bl k2)]:=by
  intro a1 n1
  have hl:=CQ n1
  have h4:=Ab (C:=DC) (i:=3) (n:=2) (F:=cF) (gl:=ac (az mkT (ac (fun _=>R.ok (D.bl false)) (ac (rvz 6) nlz))) (ac (rvz 5) nlz)) (ρ:=[x0,vS [old],vS [new],dO q a1,vD (kD (k1,k2)),vD (pD p),vD (.bl k2)]) (ds:=[kD (false,k2),pD p]) (d:=.non) rfl rfl rfl (ox (false,k2) p (by omega))
  have h6:∀ y:Nat,eqF (.str [y]) (.str [new])=some (.bl (decide (y=new))):=fun y=>by
   rw [Jw];congr 2
   by_cases z:y=new
   ·rw [z,beq_self_eq_true,decide_eq_true rfl]
   ·rw [decide_eq_false z,beq_eq_false_iff_ne];intro y;exact z (by injection y)
  clear i1 i0 hl hp hn
  have h7:=h6 (und old k2)
  clear h6
  by_cases z:und old k2=new
  ·rw [decide_eq_true z] at h7
   rw [if_pos z]
   clear z
   cases k2 <;> dsimp only [und] at h7 <;> walk_at "run"
  ·rw [decide_eq_false z] at h7
   rw [if_neg z]
   clear z
   cases k2 <;> dsimp only [und] at h7 <;> walk_at "run"
 have hl:=CQ hn
 cases k1 with
 | true=>
  have f1:=fin (bF acc (true,k2) (iT p (.say [new]))) (fH hn)
  have h4:=Ab (C:=DC) (i:=3) (n:=3) (F:=jy) (gl:=ac (az mkT (ac (fun _=>R.ok (D.bl true)) (ac (rvz 6) nlz))) (ac (rvz 5) (ac (az mkT (ac (csz [115,97,121]) (ac (rvz 2) nlz))) nlz))) (ρ:=[x0,vS [old],vS [new],dO q acc,vD (kD (true,k2)),vD (pD p),vD (.bl k2)]) (ds:=[kD (true,k2),pD p,oD (.say [new])]) (d:=.non) rfl rfl rfl (yC (true,k2) (.say [new]) (by omega) hp)
  refine (gz (ρ1:=[x0,vS [old],vS [new],dO q acc,vD (kD (true,k2)),vD (pD p),vD (.bl k2)]) ?_).trans ?_
  ·rfl
  refine (gz (ρ1:=[x0,vS [old],vS [new],dO q (bF acc (true,k2) (iT p (.say [new]))),vD (kD (true,k2)),vD (pD p),vD (.bl k2)]) ?_).trans ?_
  ·clear fin f1 hl hn hp
   walk_at "run"
  exact gz f1
 | false=>
  have f1:=fin acc hn
  refine (gz (ρ1:=[x0,vS [old],vS [new],dO q acc,vD (kD (false,k2)),vD (pD p),vD (.bl k2)]) ?_).trans ?_
  ·rfl
  refine (gz (ρ1:=[x0,vS [old],vS [new],dO q acc,vD (kD (false,k2)),vD (pD p),vD (.bl k2)]) ?_).trans ?_
  ·rfl
  exact gz f1
theorem Dp (k:Ky):Ba (kN k)=kD k:=ql k.1 k.2
theorem Ac (m:Mp):xk (dD m)=.ok (m.map fun z=>.tup [kD z.1,pD z.2]):=by
 show R.ok ((((m.map fun z=>kN z.1)).zip ((m.map fun z=>pD z.2))).map fun z=>D.tup [Ba z.1,z.2])=_
 rw [yf];unfold kvD;rw [List.map_map]
 congr 1
 refine List.map_congr_left fun z _=>?_
 show D.tup [Ba (kN z.1),_]=_
 rw [Dp]
theorem qZ {x0:Option Sl} {q:Addr} (old new:Nat):∀ (m acc:Mp) (x4 x5 x6:Option Sl),(keys acc).Nodup->Len 890 m->∃ y4 y5 y6,dw (Dh [4,5]) (cM jy cF) (m.map fun z=>.tup [kD z.1,pD z.2]) [x0,vS [old],vS [new],dO q acc,x4,x5,x6] =
  .nx [x0,vS [old],vS [new],dO q (m.foldl (sovK old new) acc),y4,y5,y6]
 | [],acc,x4,x5,x6,_,_=>⟨x4,x5,x6,rfl⟩
 | (k,p)::m,acc,x4,x5,x6,hn,hp=>by
  obtain ⟨y4,y5,y6,ih⟩:=qZ old new m (sovK old new acc (k,p)) (vD (kD k)) (vD (pD p)) (vD (.bl k.2)) (nN hn) fun z hz=>hp z (List.mem_cons_of_mem _ hz)
  refine ⟨y4,y5,y6,?_⟩
  rw [List.map_cons,gT (ρ1:=[x0,vS [old],vS [new],dO q acc,vD (kD k),vD (pD p),x6]) rfl (yw old new k p hn (by have:=hp (k,p) (List.mem_cons_self ..);dsimp only at this;omega))]
  exact ih
theorem FI (q:Addr×Unit) {m:Mp} (old new:Nat) (hp:Len 890 m):bR jy cF q (ar 7 [dD m,.str [old],.str [new]])=.rt (dD (xU old new m)):=by
 obtain ⟨y4,y5,y6,h⟩:=qZ (x0:=vD (dD m)) (q:=q.1) old new m [] none none none List.Pairwise.nil hp
 show (cb jy cF [vD (dD m),vS [old],vS [new],some (.obj true DC q.1 (fsD [])),none,none,none]).seq (ay (dQ jy cF) oNx)=_
 have e:cb jy cF [vD (dD m),vS [old],vS [new],some (.obj true DC q.1 (fsD [])),none,none,none]=.nx [vD (dD m),vS [old],vS [new],some (.obj true DC q.1 (fsD (xU old new m))),y4,y5,y6]:=by
  have h2:=Ac m
  unfold cb
  walk_at "run"
  rfl
 rw [e]
 show (qX 3 _).seq _=_
 rw [yu (q:=q.1) (m:=xU old new m) rfl];rfl
open Classical in
noncomputable def soF:List D->R D:=fun ds=>if ∃ m,∃ old new:Nat,ds=[dD m,.str [old],.str [new]]/\Len 890 m then au (bR jy cF (0,()) (ar 7 ds)) else .no
theorem Gz {m:Mp} (old new:Nat) (hp:Len 890 m):soF [dD m,.str [old],.str [new]]=.ok (dD (xU old new m)):=by
 unfold soF
 rw [if_pos ⟨m,old,new,rfl,hp⟩,FI _ old new hp];rfl
theorem mh:∀ ds:List D,ds.length=3->soF ds=.no\/∀ q,au (bR jy cF q (ar 7 ds))=soF ds:=by
 intro ds _
 by_cases h:∃ m,∃ old new:Nat,ds=[dD m,.str [old],.str [new]]/\Len 890 m
 ·obtain ⟨m,old,new,rfl,hp⟩:=h
  refine .inr fun q=>?_
  rw [Gz old new hp,FI q old new hp];rfl
 ·exact .inl (by unfold soF;exact if_neg h)
noncomputable def uV (n:Nat) (old new:List Nat) (m:Mp) (c:Nat):Mp:=xU (old.getD c 0) (new.getD c 0) (dL m n c)
noncomputable def ff (n:Nat) (old new:List Nat) (b:Nat) (m:Mp):Mp:=(List.range' b (old.length - b)).foldl (uV n old new) m
theorem hW {m:Mp} {k j:Ky} {p:Pl} (h:m.lookup j≠none):(bF m k p).lookup j≠none:=by
 rw [ic]
 split
 ·split
  ·exact fun z=>nomatch z
  ·split <;> exact fun z=>nomatch z
 ·exact h
theorem mO {m:Mp} {k:Ky} {p:Pl}:(bF m k p).lookup k≠none:=by
 rw [ic,if_pos rfl]
 split
 ·exact fun z=>nomatch z
 ·split <;> exact fun z=>nomatch z
theorem lJ {m:Mp} {a b j:Ky} {o:Od} (h:m.lookup j≠none):(move m a b o).lookup j≠none:=by
 unfold move
 split
 ·exact hW h
 ·exact h
theorem Aw {m:Mp} {a b:Ky} {o:Od} (h:m.lookup a≠none):(move m a b o).lookup b≠none:=by
 unfold move
 split
 ·exact mO
 ·rename_i e;exact absurd e h
theorem xj {old new:Nat} {acc:Mp} {z:Ky×Pl} {j:Ky} (h:acc.lookup j≠none):(sovK old new acc z).lookup j≠none:=by
 unfold sovK
 have h1:(if z.1.1=true then bF acc (true,z.1.2) (iT z.2 (.say [new])) else acc).lookup j≠none:=by
  split
  ·exact hW h
  ·exact h
 dsimp only
 split
 ·exact hW h1
 ·exact h1
theorem zB {old new:Nat} {m:Mp} (h:m.lookup (true,false)≠none):(xU old new m).lookup (true,false)≠none:=by
 cases e:m.lookup (true,false) with
 | none=>exact absurd e h
 | some p=>
  have hm:=jj e
  have go:∀ (l:Mp) (acc:Mp),((true,false),p)∈l\/acc.lookup (true,false)≠none->(l.foldl (sovK old new) acc).lookup (true,false)≠none:=by
   intro l
   induction l with
   | nil=>intro acc h;rcases h with h|h;exact nomatch h;exact h
   | cons z l ih=>
    intro acc h
    refine ih _ ?_
    rcases h with h|h
    ·rcases List.mem_cons.1 h with h|h
     ·subst h
      refine .inr ?_
      unfold sovK
      dsimp only
      rw [if_pos rfl]
      split
      ·exact hW mO
      ·exact mO
     ·exact .inl h
    ·exact .inr (xj h)
  exact go m [] (.inl hm)
structure Gd (J:Nat) (m:Mp):Prop where
 nd:(keys m).Nodup
 ne:m.lookup (true,false)≠none\/m.lookup (false,false)≠none
 len:Len J m
theorem Gd.nn {m:Mp} (g:Gd J m):m≠[]:=fun e=>by
 subst e;rcases g.ne with h|h <;> exact h rfl
theorem wG {m:Mp} (g:Gd J m) (n c:Nat):(dL m n c).lookup (true,false)≠none:=by
 unfold dL
 refine lJ (lJ ?_)
 rcases g.ne with h|h
 ·exact lJ h
 ·exact Aw h
theorem Len.moves {m:Mp} (h:Len J m) (n c:Nat):Len (J+3) (dL m n c):=((h.move _ _ _).move _ _ _).move _ _ _
theorem Len.sov {m:Mp} (h:Len J m) (old new:Nat):Len (J+1) (xU old new m):=
 oT (P:=fun _ p=>p.2.length<=J) h (fun k p hp _=>by simp only [iT,List.length_append,List.length_singleton];omega) fun k p hp _=>Nat.le_succ_of_le hp
theorem Gd.col {m:Mp} (g:Gd J m) (n c:Nat) (old new:List Nat):Gd (J+4) (uV n old new m c):=
 ⟨wv,.inl (zB (wG g n c)),(g.len.moves n c).sov _ _⟩
theorem wC {a b:Nat} (h:a+b<=1000):iB [.int (a:Int),.int ((a+b:Nat):Int)]=.ok ((List.range' a b).map fun (i:Nat)=>D.int (i:Int)):=by
 have e:iB [.int (a:Int),.int ((a+b:Nat):Int)]=if -(2 ^ 62)<=(a:Int)/\(a:Int)<2 ^ 62/\-(2 ^ 62)<=((a+b:Nat):Int)/\((a+b:Nat):Int)<2 ^ 62 then .ok ((List.range (((a+b:Nat):Int) - (a:Int)).toNat).map fun k=>D.int ((a:Int)+(k:Nat))) else .no:=by simp only [iB]
 rw [e,if_pos (by refine ⟨?_,?_,?_,?_⟩ <;> omega),show (((a+b:Nat):Int) - (a:Int)).toNat=b by omega,List.range'_eq_map_range,List.map_map]
 refine congrArg R.ok (List.map_congr_left fun k _=>?_)
 simp
theorem jh {x:List Nat} {c:Nat} (h:c<x.length):x[c]?=some (x.getD c 0):=by
 rw [List.getD_eq_getElem?_getD,List.getElem?_eq_getElem h];rfl
theorem Cg {x0 x4:Option Sl} {m:Mp} (g:Gd J m) (n c:Nat) {new:List Nat} (h1:c<old.length) (h2:c<new.length) (hJ:J<=880) :
  li wmF soF [x0,vI n,vS old,vS new,x4,vD (dD m),vI c]=.nx [x0,vI n,vS old,vS new,x4,vD (dD (uV n old new m c)),vI c]:=by
 have e1:=E8 n c g.nn g.nd g.len hJ
 have e2:=Gz (m:=dL m n c) (old.getD c 0) (new.getD c 0) ((g.len.moves n c).mono (by omega))
 have e3:=JH (jh h1)
 have e4:=JH (jh h2)
 unfold li uV
 clear h1 h2 hJ g
 walk_at "run"
theorem yS {x0 x4:Option Sl} (n:Nat) {old new:List Nat} (hl:new.length=old.length):∀ (k b J:Nat) (m:Mp) (x6:Option Sl),b+k<=old.length->Gd J m->J+4 * k<=880->∃ y6,dw (jA 6) (li wmF soF) ((List.range' b k).map fun (i:Nat)=>D.int (i:Int)) [x0,vI n,vS old,vS new,x4,vD (dD m),x6] =
  .nx [x0,vI n,vS old,vS new,x4,vD (dD ((List.range' b k).foldl (uV n old new) m)),y6]/\Gd (J+4 * k) ((List.range' b k).foldl (uV n old new) m)
 | 0,b,J,m,x6,_,g,_=>⟨x6,rfl,g⟩
 | k+1,b,J,m,x6,hb,g,hJ=>by
  obtain ⟨y6,ih,gg⟩:=yS (x0:=x0) (x4:=x4) n hl k (b+1) (J+4) (uV n old new m b) (vI b) (by omega) (g.col n b old new) (by omega)
  refine ⟨y6,?_,?_⟩
  ·rw [List.range'_succ,List.map_cons,gT (ρ1:=[x0,vI n,vS old,vS new,x4,vD (dD m),vI b]) rfl (Cg g n b (by omega) (by omega) (by omega))]
   exact ih
  ·rw [List.range'_succ,List.foldl_cons,show J+4 * (k+1)=J+4+4 * k by omega];exact gg
noncomputable def swF:List D->R D:=fun ds=>au (mE wmF soF (ar 7 ds))
theorem pK {m:Mp} (g:Gd J m) (n:Nat) {new:List Nat} {b:Nat} (hl:new.length=old.length) (hb:b<=old.length) (hJ:J+4 * old.length<=880) :
  swF [dD m,.int (n:Int),.str old,.str new,.int (b:Int)]=.ok (dD (ff n old new b m))/\Gd (J+4 * (old.length - b)) (ff n old new b m):=by
 obtain ⟨y6,h,gg⟩:=yS (x0:=vD (dD m)) (x4:=vI b) n hl (old.length - b) b J m none (by omega) g (by omega)
 refine ⟨?_,gg⟩
 have hr:=wC (a:=b) (b:=old.length - b) (by omega)
 rw [show b+(old.length - b)=old.length by omega] at hr
 show au (ay _ _ [vD (dD m),vI n,vS old,vS new,vI b,none,none])=_
 unfold uo vj vy
 clear gg hJ hb hl g
 walk_at "run"
 rfl
noncomputable def wk:Pl->List Pl->Pl
 | b,[]=>b
 | b,x::xs=>if x.1<b.1 then wk x xs else wk b xs
noncomputable def C7:List Pl->Pl
 | []=>(0,[])
 | b::xs=>wk b xs
noncomputable def fg (m:Mp) (ks:List Ky):List Pl:=ks.filterMap fun k=>m.lookup k
noncomputable def gP (m:Mp) (ks:List Ky):Pl:=C7 (fg m ks)
theorem sY:∀ (xs:List Pl) (b:Pl),qo (fun d=>pcF [d]) (pD b) (b.1:Int) (xs.map pD)=.ok (pD (wk b xs))
 | [],b=>rfl
 | x::xs,b=>by
  rw [List.map_cons]
  show (match pcF [pD x] with
   | .ok (.int kx)=>if kx<(b.1:Int) then qo (fun d=>pcF [d]) (pD x) kx (xs.map pD) else qo (fun d=>pcF [d]) (pD b) (b.1:Int) (xs.map pD)
   | _=>.no)=.ok (pD (if x.1<b.1 then wk x xs else wk b xs))
  rw [AU]
  dsimp only
  by_cases h:x.1<b.1
  ·rw [if_pos (by omega),if_pos h];exact sY xs x
  ·rw [if_neg (by omega),if_neg h];exact sY xs b
theorem ug {xs:List Pl} (h:xs≠[]):oX (fun d=>pcF [d]) (xs.map pD)=.ok (pD (C7 xs)):=by
 cases xs with
 | nil=>exact absurd rfl h
 | cons b xs=>
  show (match pcF [pD b] with
   | .ok (.int kx)=>qo (fun d=>pcF [d]) (pD b) kx (xs.map pD)
   | _=>.no)=_
  rw [AU]
  exact sY xs b
theorem ig:∀ (xs:List Pl) (b:Pl),wk b xs∈b::xs
 | [],b=>List.mem_cons_self ..
 | x::xs,b=>by
  show (if x.1<b.1 then wk x xs else wk b xs)∈_
  split
  ·exact List.mem_cons_of_mem _ (ig xs x)
  ·rcases List.mem_cons.1 (ig xs b) with h|h
   ·rw [h];exact List.mem_cons_self ..
   ·exact List.mem_cons_of_mem _ (List.mem_cons_of_mem _ h)
theorem qi {xs:List Pl} (h:xs≠[]):C7 xs∈xs:=by
 cases xs with
 | nil=>exact absurd rfl h
 | cons b xs=>exact ig xs b
theorem yL {P:Pl->Prop} {m:Mp} {ks:List Ky} (h:All (fun _=>P) m):∀ p∈fg m ks,P p:=fun p hp=>by
 obtain ⟨k,_,e⟩:=List.mem_filterMap.1 hp
 exact All.at h e
theorem fh {P:Pl->Prop} {m:Mp} {ks:List Ky} (h:All (fun _=>P) m) (hn:fg m ks≠[]):P (gP m ks):=yL h _ (qi hn)
theorem kW {m:Mp} {ks:List Ky} {k:Ky} (hk:k∈ks) (h:m.lookup k≠none):fg m ks≠[]:=by
 cases e:m.lookup k with
 | none=>exact absurd e h
 | some p=>exact List.ne_nil_of_mem (List.mem_filterMap.2 ⟨k,hk,e⟩)
noncomputable def chF:List D->R D:=fun ds=>au (gE pcF (ar 2 ds))
theorem wZ {m:Mp}:∀ (ks:List Ky) (a:Option Sl),fZ (qb false 1 (rvz 0)) (gy 1 (rvz 0)) (ks.map kD) [a,vD (dD m)]=.ok ((fg m ks).map pD)
 | [],a=>rfl
 | k::ks,a=>by
  have ih:=wZ (m:=m) ks (vD (kD k))
  have h3:qQ [vD (kD k),vD (dD m)] 1=.ok (kvD m):=AQ rfl
  have h1:=BJ (neg:=false) (i:=1) (ge:=fun ρ=>rdV ρ 0) (ρ:=[vD (kD k),vD (dD m)]) rfl (lU k) h3
  rw [mT,Option.isSome_map] at h1
  show (gh (qb false 1 (rvz 0) [vD (kD k),vD (dD m)])>>=fun k'=>if k'=true then gh (gy 1 (rvz 0) [vD (kD k),vD (dD m)])>>=fun x=>fZ (qb false 1 (rvz 0)) (gy 1 (rvz 0)) (ks.map kD) [vD (kD k),vD (dD m)]>>=fun xs=>.ok (x::xs) else fZ (qb false 1 (rvz 0)) (gy 1 (rvz 0)) (ks.map kD) [vD (kD k),vD (dD m)])=_
  rw [h1,ih]
  cases e:m.lookup k with
  | none=>
   have:fg m (k::ks)=fg m ks:=by unfold fg;rw [List.filterMap_cons,e]
   rw [this];rfl
  | some p=>
   have h2:=xM (i:=1) (ge:=fun ρ=>rdV ρ 0) (v:=pD p) h3 rfl (lU k) (by rw [mT,e];rfl)
   have:fg m (k::ks)=p::fg m ks:=by unfold fg;rw [List.filterMap_cons,e]
   rw [this,h2];rfl
theorem CG {m:Mp} {ks:List Ky} (hn:fg m ks≠[]) (hl:ks.length<=4):chF [dD m,.tup (ks.map kD)]=.ok (pD (gP m ks)):=by
 have h1:=wZ (m:=m) ks none
 have h2:((fg m ks).map pD).length<=sizeLine:=by
  have h3:1000<=sizeLine:=by decide
  have h4:=List.length_filterMap_le (fun k=>m.lookup k) ks
  rw [List.length_map];unfold fg;omega
 have h5:=ug hn
 have h6:bL (jl (az ca (rvz 1)) [0] (qb false 1 (rvz 0)) (gy 1 (rvz 0))) [vD (dD m),vD (.tup (ks.map kD))]=.ok (.lst false ((fg m ks).map pD)):=by
  have h7:ca (.tup (ks.map kD))=.ok (ks.map kD):=rfl
  have h8:jI [0] [vD (dD m),vD (.tup (ks.map kD))]=[none,vD (dD m)]:=rfl
  clear h5
  walk_at "run"
 show au (ay (cj (sL _ pcF)) oNx [vD (dD m),vD (.tup (ks.map kD))])=_
 have h9:sL (bL (jl (az ca (rvz 1)) [0] (qb false 1 (rvz 0)) (gy 1 (rvz 0)))) pcF [vD (dD m),vD (.tup (ks.map kD))]=.ok (pD (gP m ks)):=by
  unfold sL
  rw [h6,R.ok_bind]
  exact h5
 clear h6 h5 h2 h1
 walk_at "run"
noncomputable def allK:List Ky:=[(false,false),(true,false),(false,true),(true,true)]
noncomputable def twoK:List Ky:=[(false,false),(true,false)]
noncomputable def m0 (k:Ky):Mp:=[(k,(0,[]))]
noncomputable def da (n:Nat) (old new:List Nat):Pl:=gP (ff n old new 0 (m0 (false,false))) allK
noncomputable def fS (n:Nat) (old new:List Nat) (c:Nat):Pl:=gP (ff n old new c (m0 (true,false))) allK
noncomputable def jR (n:Nat) (old new:List Nat) (c:Nat):Pl:=gP (ff n (old.take c) (new.take c) 0 (m0 (false,false))) twoK
noncomputable def cY (n:Nat) (old new:List Nat) (c:Nat):Pl:=((fS n old new c).1+(jR n old new c).1,(fS n old new c).2++(jR n old new c).2)
noncomputable def qa (n:Nat) (old new:List Nat) (c:Nat):Pl:=wk (cY n old new c) [da n old new]
theorem gd0:Gd 0 (m0 (false,false)):=⟨by decide,.inr (fun z=>nomatch z),fun z hz=>by rw [List.mem_singleton.1 hz];exact Nat.le_refl _⟩
theorem gd1:Gd 0 (m0 (true,false)):=⟨by decide,.inl (fun z=>nomatch z),fun z hz=>by rw [List.mem_singleton.1 hz];exact Nat.le_refl _⟩
theorem Gd.two {m:Mp} (g:Gd J m):fg m twoK≠[]:=by
 rcases g.ne with h|h
 ·exact kW (by decide) h
 ·exact kW (by decide) h
theorem Gd.all {m:Mp} (g:Gd J m):fg m allK≠[]:=by
 rcases g.ne with h|h
 ·exact kW (by decide) h
 ·exact kW (by decide) h
noncomputable def peF:List D->R D:=fun ds=>au (bO swF chF (ar 4 ds))
theorem FA {h:List D->R D} {ga gc gd:Ev->R D}:aG 5 h (ac ga (ac gb (ac gc (ac gd (ac ge fun _=>.ok []))))) ρ=ga ρ>>=fun x=>gb ρ>>=fun y=>gc ρ>>=fun z=>gd ρ>>=fun w=>ge ρ>>=fun v=>h [x,y,z,w,v]:=by
 unfold aG ac
 cases ga ρ <;> try rfl
 simp only [ac,R.ok_bind]
 cases gb ρ <;> try rfl
 simp only [R.ok_bind]
 cases gc ρ <;> try rfl
 simp only [R.ok_bind]
 cases gd ρ <;> try rfl
 simp only [R.ok_bind]
 cases ge ρ <;> rfl
theorem EM (b:Bool) (ρ:Ev):gD1 (fun _=>R.ok (D.tup [D.bl b,D.bl false])) (fun _=>R.ok (D.tup [D.int 0,D.tup []])) ρ=.ok (dD (m0 (b,false))):=rfl
theorem Go:mkT [D.tup [D.bl false,D.bl false],D.tup [D.bl true,D.bl false],D.tup [D.bl false,D.bl true],D.tup [D.bl true,D.bl true]]=.ok (.tup (allK.map kD)):=rfl
theorem Je:mkT [D.tup [D.bl false,D.bl false],D.tup [D.bl true,D.bl false]]=.ok (.tup (twoK.map kD)):=rfl
theorem Db (n:Nat) {new:List Nat} (hl:new.length=old.length) (hw:old.length<=40):peF [.int (n:Int),.str old,.str new]=.ok (pD (da n old new))/\(da n old new).2.length<=4 * old.length:=by
 obtain ⟨h1,g⟩:=pK gd0 n (b:=0) hl (Nat.zero_le _) (by omega)
 have b:=fh (ks:=allK) (P:=fun p=>p.2.length<=0+4 * (old.length - 0)) g.len g.all
 refine ⟨?_,by unfold da;omega⟩
 have h1:swF [_,_,_,_,.int 0]=_:=h1
 have h2:=CG g.all (by decide)
 have k5:=@FA
 have d1:=EM
 have k4:=Go
 show au (ay _ _ [vI n,vS old,vS new,none])=_
 unfold cP cN da
 clear b g hw hl
 walk_at "run"
noncomputable def ppF:List D->R D:=fun ds=>au (cy swF chF (ar 7 ds))
theorem Bs {x:List Nat} {c:Nat} (h:c<=x.length):CA none (some (c:Int)) (.str x)=some (.str (x.take c)):=by
 show some (D.str (jz x none (some (c:Int))))=_
 rw [zG x c h]
theorem Af {a b:List Od} (h:a.length+b.length<=900):ci (.tup (a.map oD)) (.tup (b.map oD))=some (.tup ((a++b).map oD)):=by
 have h1:1000<=sizeLine:=by decide
 show (if _ then _ else _)=_
 rw [if_pos (by simp only [List.length_map];omega),List.map_append]
theorem HQ (n:Nat) {new:List Nat} {c:Nat} (hl:new.length=old.length) (hw:old.length<=40) (hc:c<=old.length):ppF [.int (n:Int),.str old,.str new,.int (c:Int)]=.ok (pD (cY n old new c))/\(cY n old new c).2.length<=4 * old.length:=by
 obtain ⟨h1,g1⟩:=pK gd1 n (b:=c) hl hc (by omega)
 have l1:(old.take c).length=c:=by rw [List.length_take];omega
 have l2:(new.take c).length=c:=by rw [List.length_take];omega
 obtain ⟨h2,g2⟩:=pK gd0 n (b:=0) (old:=old.take c) (new:=new.take c) (by omega) (Nat.zero_le _) (by omega)
 have b1:=fh (ks:=allK) (P:=fun p=>p.2.length<=0+4 * (old.length - c)) g1.len g1.all
 have b2:=fh (ks:=twoK) (P:=fun p=>p.2.length<=0+4 * ((old.take c).length - 0)) g2.len g2.two
 have b3:(cY n old new c).2.length<=4 * old.length:=by unfold cY fS jR;rw [List.length_append];rw [l1] at b2;omega
 refine ⟨?_,b3⟩
 have h3:_=R.ok (pD (fS n old new c)):=CG g1.all (by decide)
 have h4:_=R.ok (pD (jR n old new c)):=CG g2.two (by decide)
 have h2:swF [_,_,_,_,.int 0]=_:=h2
 have h5:=Bs (x:=old) hc
 have h6:=Bs (x:=new) (by omega:c<=new.length)
 have h7:=Af (a:=(fS n old new c).2) (b:=(jR n old new c).2) (by unfold cY at b3;rw [List.length_append] at b3;omega)
 have k5:=@FA
 have d1:=EM
 have k4:=Go
 have k2:=Je
 have i0:∀ p:Pl,ixD (pD p) (.int 0)=some (.int (p.1:Int)):=fun _=>rfl
 have i1:∀ p:Pl,ixD (pD p) (.int 1)=some (.tup (p.2.map oD)):=fun _=>rfl
 have i5:mkT [.int (((fS n old new c).1:Int)+((jR n old new c).1:Int)),.tup (((fS n old new c).2++(jR n old new c).2).map oD)]=.ok (pD (cY n old new c)):=rfl
 show au (ay _ _ [vI n,vS old,vS new,vI c,none,none,none])=_
 unfold eI eM dX eF el
 clear b1 b2 b3 l1 l2 g1 g2 hl hw hc
 walk_at "run"
noncomputable def rpF:List D->R D:=fun ds=>au (bZ peF ppF pcF (ar 5 ds))
theorem Fj (n:Nat) {new:List Nat} {c:Nat} (hl:new.length=old.length) (hw:old.length<=40) (hc:c<=old.length):rpF [.int (n:Int),.str old,.str new,.int (c:Int)]=.ok (pD (qa n old new c))/\(qa n old new c).2.length<=4 * old.length:=by
 obtain ⟨h1,b1⟩:=Db n hl hw
 obtain ⟨h2,b2⟩:=HQ n hl hw hc
 refine ⟨?_,?_⟩
 ·have h3:_=R.ok (pD (qa n old new c)):=ug (xs:=[cY n old new c,da n old new]) (fun z=>nomatch z)
  have hz:2<=sizeLine:=by decide
  have mn:∀ (ga:Ev->R D) (ρ:Ev),sL ga pcF ρ=ga ρ>>=fun d=>match d with|.lst _ xs=>oX (fun d=>pcF [d]) xs|_=>.no:=fun _ _=>rfl
  show au (ay _ _ [vI n,vS old,vS new,vI c,none])=_
  unfold dh dg
  clear b1 b2 hl hw hc
  rw [List.map_cons,List.map_cons,List.map_nil] at h3
  walk_at "run"
 ·rcases List.mem_cons.1 (ig [da n old new] (cY n old new c)) with h|h
  ·unfold qa;rw [h];exact b2
  ·unfold qa;rw [List.mem_singleton.1 h];exact b1
theorem oC {P:Pl->Prop} {m:Mp} {a b:Ky} {o:Od} (h:All (fun _=>P) m) (ho:∀ p,P p->P (iT p o)):All (fun _=>P) (move m a b o):=by
 unfold move
 split
 ·rename_i p e;exact All.offer h (ho p (All.at h e))
 ·exact h
theorem wO {P:Pl->Prop} {n b:Nat} {new:List Nat} {m:Mp} (h:All (fun _=>P) m) (hg:∀ c,c<old.length->∀ p,P p->P (iT p (.go n c))) (hw:∀ p,P p->P (iT p .wipe)) (hs:∀ c,c<old.length->∀ p,P p->P (iT p (.say [new.getD c 0]))):All (fun _=>P) (ff n old new b m):=by
 refine lg (P:=All (fun _=>P)) h fun a c hc ha=>?_
 have hc':c<old.length:=by rw [List.mem_range'_1] at hc;omega
 exact oT (P:=fun _=>P) (oC (oC (oC ha (hg c hc')) hw) (hg c hc')) (fun k p hp _=>hs c hc' p hp) fun k p hp _=>hp
noncomputable def POk (p:Pl):Prop:=(∀ o∈p.2,okO o=true/\pZ o<=1)/\p.1=(p.2.map bA).sum
theorem POk.add {p:Pl} {o:Od} (h:POk p) (ho:okO o=true) (hs:pZ o<=1):POk (iT p o):=by
 refine ⟨fun x hx=>?_,?_⟩
 ·rcases List.mem_append.1 hx with hx|hx
  ·exact h.1 x hx
  ·rw [List.mem_singleton.1 hx];exact ⟨ho,hs⟩
 ·simp only [iT,List.map_append,List.sum_append,h.2];simp
theorem POk.zero:POk (0,[]):=⟨fun _ h=>(by cases h),rfl⟩
theorem yk {x:List Nat} {c:Nat} (h:bt x=true) (hc:c<x.length):bt [x.getD c 0]=true:=by
 have:x.getD c 0∈x:=by rw [List.getD_eq_getElem?_getD,List.getElem?_eq_getElem hc];exact List.getElem_mem hc
 unfold bt at h ⊢
 simp only [List.all_cons,List.all_nil,Bool.and_true]
 exact List.all_eq_true.1 h _ this
theorem mH {n b:Nat} {new:List Nat} {m:Mp} (h:All (fun _=>POk) m) (hn:n<=11) (hw:old.length<=40) (hl:new.length=old.length) (hp:bt new=true):All (fun _=>POk) (ff n old new b m):=
 wO h (fun c hc p q=>q.add (by simp only [okO,Bool.and_eq_true,decide_eq_true_eq];omega) (Nat.zero_le _)) (fun p q=>q.add rfl (Nat.zero_le _))
  fun c hc p q=>q.add (by have:=yk hp (by omega:c<new.length);simp only [okO,this];rfl) (Nat.le_refl _)
theorem xR (k:Ky):All (fun _=>POk) (m0 k):=fun z hz=>by rw [List.mem_singleton.1 hz];exact POk.zero
theorem om {n:Nat} {new:List Nat} (hn:n<=11) (hw:old.length<=40) (hl:new.length=old.length) (hp:bt new=true):POk (da n old new):=
 fh (mH (xR _) hn hw hl hp) (pK gd0 n (b:=0) hl (Nat.zero_le _) (by omega)).2.all
theorem lf {x:List Nat} (n:Nat) (h:bt x=true):bt (x.take n)=true:=by
 simp only [bt,List.all_eq_true] at *;exact fun c hc=>h c (List.mem_of_mem_take hc)
theorem xf {n c:Nat} {new:List Nat} (hn:n<=11) (hw:old.length<=40) (hl:new.length=old.length) (hp:bt new=true) (hc:c<=old.length):POk (fS n old new c):=
 fh (mH (xR _) hn hw hl hp) (pK gd1 n (b:=c) hl hc (by omega)).2.all
theorem AM {n c:Nat} {new:List Nat} (hn:n<=11) (hw:old.length<=40) (hl:new.length=old.length) (hp:bt new=true) (hc:c<=old.length):POk (jR n old new c):=by
 have l1:(old.take c).length=c:=by rw [List.length_take];omega
 have l2:(new.take c).length=c:=by rw [List.length_take];omega
 exact fh (mH (xR _) hn (by omega) (by omega) (lf c hp)) (pK gd0 n (b:=0) (old:=old.take c) (new:=new.take c) (by omega) (Nat.zero_le _) (by omega)).2.two
theorem yK {n c:Nat} {new:List Nat} (hn:n<=11) (hw:old.length<=40) (hl:new.length=old.length) (hp:bt new=true) (hc:c<=old.length):POk (cY n old new c):=by
 have h1:=xf hn hw hl hp hc
 have h2:=AM hn hw hl hp hc
 refine ⟨fun o ho=>?_,?_⟩
 ·rcases List.mem_append.1 ho with ho|ho
  ·exact h1.1 o ho
  ·exact h2.1 o ho
 ·show _+_=_
  rw [h1.2,h2.2];simp [cY]
theorem yJ {n c:Nat} {new:List Nat} (hn:n<=11) (hw:old.length<=40) (hl:new.length=old.length) (hp:bt new=true) (hc:c<=old.length):POk (qa n old new c):=by
 rcases List.mem_cons.1 (ig [da n old new] (cY n old new c)) with h|h
 ·unfold qa;rw [h];exact yK hn hw hl hp hc
 ·unfold qa;rw [List.mem_singleton.1 h];exact om hn hw hl hp
noncomputable def Has (m:Mp) (k:Ky) (v:Nat):Prop:=∃ q,m.lookup k=some q/\q.1<=v
theorem Has.offer {m:Mp} {j k:Ky} {v:Nat} {p:Pl} (h:Has m j v):Has (bF m k p) j v:=by
 obtain ⟨q,e,hq⟩:=h
 unfold Has
 rw [ic]
 by_cases z:j=k
 ·subst z
  rw [if_pos rfl,e]
  dsimp only
  by_cases y:p.1<q.1
  ·rw [if_pos y];exact ⟨p,rfl,by omega⟩
  ·rw [if_neg y];exact ⟨q,rfl,hq⟩
 ·rw [if_neg z];exact ⟨q,e,hq⟩
theorem Has.new {m:Mp} {k:Ky} {p:Pl}:Has (bF m k p) k p.1:=by
 unfold Has
 rw [ic,if_pos rfl]
 cases m.lookup k with
 | none=>exact ⟨p,rfl,Nat.le_refl _⟩
 | some q=>
  dsimp only
  by_cases y:p.1<q.1
  ·rw [if_pos y];exact ⟨p,rfl,Nat.le_refl _⟩
  ·rw [if_neg y];exact ⟨q,rfl,by omega⟩
theorem Has.mono {m:Mp} {k:Ky} {v w:Nat} (h:Has m k v) (l:v<=w):Has m k w:=by
 obtain ⟨q,e,hq⟩:=h;exact ⟨q,e,Nat.le_trans hq l⟩
theorem Has.keep {m:Mp} {a b j:Ky} {o:Od} {v:Nat} (h:Has m j v):Has (move m a b o) j v:=by
 unfold move
 split
 ·exact h.offer
 ·exact h
theorem Has.move {m:Mp} {a b:Ky} {o:Od} {v:Nat} (h:Has m a v):Has (move m a b o) b (v+bA o):=by
 obtain ⟨q,e,hq⟩:=h
 unfold Q.move
 rw [e]
 exact Has.new.mono (by show q.1+bA o<=_;omega)
theorem Has.sovK {old new:Nat} {acc:Mp} {z:Ky×Pl} {j:Ky} {v:Nat} (h:Has acc j v):Has (sovK old new acc z) j v:=by
 unfold Q.sovK
 have h1:Has (if z.1.1=true then bF acc (true,z.1.2) (iT z.2 (.say [new])) else acc) j v:=by
  split
  ·exact h.offer
  ·exact h
 dsimp only
 split
 ·exact h1.offer
 ·exact h1
theorem pw {old new:Nat} {j:Ky} {v:Nat}:∀ {l acc:Mp},(Has acc j v\/∃ z∈l,∀ acc,Has (sovK old new acc z) j v)->Has (l.foldl (sovK old new) acc) j v
 | [],acc,h=>by
  rcases h with h|⟨z,hz,_⟩
  ·exact h
  ·cases hz
 | x::l,acc,h=>by
  refine pw (l:=l) ?_
  rcases h with h|⟨z,hz,H⟩
  ·exact .inl h.sovK
  ·rcases List.mem_cons.1 hz with hz|hz
   ·subst hz;exact .inl (H acc)
   ·exact .inr ⟨z,hz,H⟩
theorem Has.say {old new:Nat} {m:Mp} {w:Bool} {v:Nat} (h:Has m (true,w) v):Has (xU old new m) (true,w) (v+1):=by
 obtain ⟨q,e,hq⟩:=h
 refine pw (.inr ⟨_,jj e,fun acc=>?_⟩)
 unfold Q.sovK
 dsimp only
 rw [if_pos rfl]
 have h1:Has (bF acc (true,w) (iT q (.say [new]))) (true,w) (v+1):=Has.new.mono (by show q.1+1<=_;omega)
 split
 ·exact h1.offer
 ·exact h1
theorem Has.leave {old new:Nat} {m:Mp} {a w:Bool} {v:Nat} (h:Has m (a,w) v) (e:und old w=new):Has (xU old new m) (false,w) v:=by
 obtain ⟨q,e',hq⟩:=h
 refine pw (.inr ⟨_,jj e',fun acc=>?_⟩)
 unfold Q.sovK
 dsimp only
 rw [if_pos e]
 exact Has.new.mono hq
theorem gB:∀ (xs:List Pl) (b:Pl) (p:Pl),p∈b::xs->(wk b xs).1<=p.1
 | [],b,p,h=>by rw [List.mem_singleton.1 h];exact Nat.le_refl _
 | x::xs,b,p,h=>by
  show (if x.1<b.1 then wk x xs else wk b xs).1<=_
  by_cases y:x.1<b.1
  ·rw [if_pos y]
   rcases List.mem_cons.1 h with h|h
   ·rw [h];exact Nat.le_trans (gB xs x x (List.mem_cons_self ..)) (Nat.le_of_lt y)
   ·exact gB xs x p h
  ·rw [if_neg y]
   rcases List.mem_cons.1 h with h|h
   ·rw [h];exact gB xs b b (List.mem_cons_self ..)
   ·rcases List.mem_cons.1 h with h|h
    ·rw [h];exact Nat.le_trans (gB xs b b (List.mem_cons_self ..)) (by omega)
    ·exact gB xs b p (List.mem_cons_of_mem _ h)
theorem oF {m:Mp} {ks:List Ky} {k:Ky} {v:Nat} (hk:k∈ks) (h:Has m k v):(gP m ks).1<=v:=by
 obtain ⟨q,e,hq⟩:=h
 have hm:q∈fg m ks:=List.mem_filterMap.2 ⟨k,hk,e⟩
 unfold gP
 cases c:fg m ks with
 | nil=>rw [c] at hm;cases hm
 | cons b xs=>rw [c] at hm;exact Nat.le_trans (gB xs b q hm) hq
theorem JX (k:Ky):Has (m0 k) k 0:=⟨(0,[]),by unfold m0;rw [List.lookup_cons,beq_self_eq_true],Nat.le_refl _⟩
noncomputable def mw (n wd:Nat) (xs:List (List Nat)):List (List Nat):=xs.map (zq wd)++List.replicate (n - xs.length) (List.replicate wd 32)
theorem nH (n wd:Nat) (xs:List (List Nat)):nB n wd xs=(mw n wd xs).map .str:=by
 unfold nB mw;rw [List.map_append,List.map_map,List.map_replicate];rfl
structure GL (s:St) (g:List (List Nat)):Prop where
 n:g.length=s.2.1.length
 l:∀ x∈g,x.length=s.1/\bt x=true
theorem tZ {s:St} {xs:List (List Nat)} (h:bP s.2.1.length s.1 xs=true):GL s (mw s.2.1.length s.1 xs):=by
 obtain ⟨h1,h2⟩:=vP h
 rw [nH] at h1 h2
 refine ⟨by rw [List.length_map] at h2;exact h2,fun x hx=>?_⟩
 obtain ⟨y,e,hy⟩:=h1 (.str x) (List.mem_map.2 ⟨x,hx,rfl⟩)
 cases e;exact hy
theorem dY {s:St} {g:List (List Nat)} (h:GL s g) (hi:i<s.2.1.length):(g.getD i []).length=s.1/\bt (g.getD i [])=true:=by
 have:g.getD i []∈g:=fF (by rw [h.n];exact hi)
 exact h.l _ this
theorem bM {s:St} (h:GS s) (hi:i<s.2.1.length):(s.2.1.getD i []).length=s.1/\bt (s.2.1.getD i [])=true:=h.l _ (fF hi)
noncomputable def sw (s:St) (g:List (List Nat)) (i:Nat):List Od:=if i=s.2.2.1 then [] else (da i (s.2.1.getD i []) (g.getD i [])).2
noncomputable def kq (s:St) (g:List (List Nat)):List Od:=(qa s.2.2.1 (s.2.1.getD s.2.2.1 []) (g.getD s.2.2.1 []) s.2.2.2).2
noncomputable def cO (s:St) (g:List (List Nat)):List Od:=kq s g++(List.range' 0 s.2.1.length).flatMap (sw s g)
theorem xu {s:St} {g:List (List Nat)} (h:GS s) (hg:GL s g) (hi:i<s.2.1.length):(sw s g i).length<=4 * s.1:=by
 unfold sw
 split
 ·exact Nat.zero_le _
 ·have:=(Db i (old:=s.2.1.getD i []) (new:=g.getD i []) (by rw [(bM h hi).1,(dY hg hi).1]) (by rw [(bM h hi).1];exact h.w2)).2
  rwa [(bM h hi).1] at this
theorem FC {s:St} {g:List (List Nat)} (h:GS s) (hg:GL s g) (hi:i<s.2.1.length):∀ o∈sw s g i,okO o=true/\pZ o<=1:=by
 unfold sw
 split
 ·exact fun o ho=>by cases ho
 ·have hm:=h.m
  exact (om (n:=i) (by omega) (by rw [(bM h hi).1];exact h.w2) (by rw [(bM h hi).1,(dY hg hi).1]) (dY hg hi).2).1
theorem rq {s:St} {g:List (List Nat)} (h:GS s) (hg:GL s g):(kq s g).length<=4 * s.1:=by
 have:=(Fj s.2.2.1 (old:=s.2.1.getD s.2.2.1 []) (new:=g.getD s.2.2.1 []) (c:=s.2.2.2) (by rw [(bM h h.r).1,(dY hg h.r).1]) (by rw [(bM h h.r).1];exact h.w2) (by rw [(bM h h.r).1];exact h.c)).2
 rwa [(bM h h.r).1] at this
theorem A1 {s:St} {g:List (List Nat)} (h:GS s) (hg:GL s g):∀ o∈kq s g,okO o=true/\pZ o<=1:=by
 have hm:=h.m
 have hr:=h.r
 exact (yJ (n:=s.2.2.1) (c:=s.2.2.2) (by omega) (by rw [(bM h h.r).1];exact h.w2) (by rw [(bM h h.r).1,(dY hg h.r).1]) (dY hg h.r).2 (by rw [(bM h h.r).1];exact h.c)).1
theorem xb (rows:List (List Nat)):cK 0 (rows.map .str)=(List.range' 0 rows.length).map fun (i:Nat)=>.tup [.int (i:Int),.str (rows.getD i [])]:=by
 unfold cK
 rw [List.length_map,List.range_eq_range']
 refine List.map_congr_left fun i hi=>?_
 have hi':i<rows.length:=by rw [List.mem_range'_1] at hi;omega
 rw [List.getD_eq_getElem?_getD,List.getD_eq_getElem?_getD,List.getElem?_map,List.getElem?_eq_getElem hi',Nat.zero_add];rfl
theorem xH {F1 F2 F3 F4:List D->R D} {x0 x1:Option Sl} {s:St} {g:List (List Nat)} (h:GS s) (hg:GL s g):∀ (k j:Nat) (acc:List Od) (x5 x6:Option Sl),j+k<=s.2.1.length->acc.length+4 * s.1 * k<=900->∃ y5 y6,dw (Dh [5,6]) (lh F1 F2 F3 peF F4) ((List.range' j k).map fun (i:Nat)=>.tup [.int (i:Int),.str (s.2.1.getD i [])])
  [x0,x1,vD (.lst false (g.map .str)),vD (.int (s.2.2.1:Int)),some (.own (acc.map oD)),x5,x6] =
  .nx [x0,x1,vD (.lst false (g.map .str)),vD (.int (s.2.2.1:Int)),some (.own ((acc++(List.range' j k).flatMap (sw s g)).map oD)),y5,y6]
 | 0,j,acc,x5,x6,_,_=>⟨x5,x6,by simp [A0]⟩
 | k+1,j,acc,x5,x6,hj,hl=>by
  have hi:j<s.2.1.length:=by omega
  have b1:=xu h hg hi
  rw [Nat.mul_succ] at hl
  obtain ⟨y5,y6,ih⟩:=xH (F1:=F1) (F2:=F2) (F3:=F3) (F4:=F4) (x0:=x0) (x1:=x1) h hg k (j+1) (acc++sw s g j) (vI j) (vS (s.2.1.getD j [])) (by omega) (by rw [List.length_append];omega)
  refine ⟨y5,y6,?_⟩
  rw [List.range'_succ,List.map_cons,gT (ρ1:=[x0,x1,vD (.lst false (g.map .str)),vD (.int (s.2.2.1:Int)),some (.own (acc.map oD)),vI j,vS (s.2.1.getD j [])]) (ρ2:=[x0,x1,vD (.lst false (g.map .str)),vD (.int (s.2.2.1:Int)),some (.own ((acc++sw s g j).map oD)),vI j,vS (s.2.1.getD j [])]) rfl ?_,ih,List.flatMap_cons,List.append_assoc]
  clear ih
  have e1:neF (.int (j:Int)) (.int (s.2.2.1:Int))=some (.bl (!decide (j=s.2.2.1))):=by
   rw [Jq]
   by_cases z:j=s.2.2.1
   ·rw [z,beq_self_eq_true,decide_eq_true rfl]
   ·rw [decide_eq_false z,beq_eq_false_iff_ne.2 (by omega)]
  unfold lh sw
  by_cases z:j=s.2.2.1
  ·rw [if_pos z,List.append_nil]
   rw [decide_eq_true z] at e1
   clear z b1 hl hj hi
   walk_at "run"
  ·rw [if_neg z]
   rw [decide_eq_false z] at e1
   have e2:=(Db j (old:=s.2.1.getD j []) (new:=g.getD j []) (by rw [(bM h hi).1,(dY hg hi).1]) (by rw [(bM h hi).1];exact h.w2)).1
   have e3:ixD (.lst false (g.map .str)) (.int (j:Int))=some (.str (g.getD j [])):=JR (by rw [List.getElem?_map,List.getElem?_eq_getElem (by rw [hg.n];exact hi),List.getD_eq_getElem?_getD,List.getElem?_eq_getElem (by rw [hg.n];exact hi)];rfl)
   have e4:ixD (pD (da j (s.2.1.getD j []) (g.getD j []))) (.int 1)=some (.tup ((da j (s.2.1.getD j []) (g.getD j [])).2.map oD)):=rfl
   have e5:∀ (ga:Ev->R D) (ρ:Ev),D1 4 ga ρ=(ownAt ρ 4).out ρ fun ds=>(ga ρ).out ρ fun d=>(asT d).out ρ fun es=>if ds.length+es.length<=sizeLine then .nx (ρ.set 4 (some (.own (ds++es)))) else .no:=fun _ _=>rfl
   have e6:asT (.tup ((da j (s.2.1.getD j []) (g.getD j [])).2.map oD))=.ok ((da j (s.2.1.getD j []) (g.getD j [])).2.map oD):=rfl
   have e7:(acc.map oD).length+((da j (s.2.1.getD j []) (g.getD j [])).2.map oD).length<=sizeLine:=by
    have h1:1000<=sizeLine:=by decide
    unfold sw at b1
    rw [if_neg z] at b1
    rw [List.length_map,List.length_map];omega
   have e8:∀ (a0 a1 a2 a3:Option Sl) (ds:List D) (ρ:Ev),ownAt (a0::a1::a2::a3::some (.own ds)::ρ) 4=.ok ds:=fun _ _ _ _ _ _=>rfl
   rw [List.map_append]
   clear z b1 hl hj hi
   walk_at "run"
theorem vA {s:St} {g:List (List Nat)} (h:GS s) (hg:GL s g):∀ (k j:Nat),j+k<=s.2.1.length->((List.range' j k).flatMap (sw s g)).length<=4 * s.1 * k
 | 0,_,_=>Nat.zero_le _
 | k+1,j,hj=>by
  have:=vA h hg k (j+1) (by omega)
  have b1:=xu h hg (i:=j) (by omega)
  rw [List.range'_succ,List.flatMap_cons,List.length_append,Nat.mul_succ];omega
theorem lO {s:St} {g:List (List Nat)} (h:GS s) (hg:GL s g):(cO s g).length<=4 * s.1 * (s.2.1.length+1):=by
 have:=vA h hg s.2.1.length 0 (by omega)
 have b1:=rq h hg
 unfold cO
 rw [List.length_append,Nat.mul_succ];omega
theorem iU {s:St} {g:List (List Nat)} (h:GS s) (hg:GL s g):∀ o∈cO s g,okO o=true/\pZ o<=1:=fun o ho=>by
 rcases List.mem_append.1 ho with ho|ho
 ·exact A1 h hg o ho
 ·obtain ⟨i,hi,ho⟩:=List.mem_flatMap.1 ho
  exact FC h hg (by rw [List.mem_range'_1] at hi;omega) o ho
theorem Hr {s:St} (h:GS s) {xs:List (List Nat)} (hx:bP s.2.1.length s.1 xs=true) (f:Bool):crF [sD s,.lst f (xs.map .str)]=.ok .non:=by
 show (match L2.iC (xs.map .str) with
  | some ys=>if screen (sD s)=true/\bP (s.2.1.map D.str).length (s.1:Int).toNat ys=true then R.ok D.non else .no
  | none=>.no)=_
 rw [jF]
 exact if_pos ⟨h.screen,by rw [List.length_map];exact hx⟩
theorem HG {s:St} (h:GS s) {xs:List (List Nat)} (hx:bP s.2.1.length s.1 xs=true) (f:Bool):frF [sD s,.lst f (xs.map .str)]=.ok (.lst false ((mw s.2.1.length s.1 xs).map .str)):=by
 have h1:=h.w2
 have h2:=h.m
 show (match L2.iC (xs.map .str) with
  | some ys=>if (0<=(s.1:Int)/\(s.1:Int)<=100)/\(s.2.1.map D.str).length<=100/\bP (s.2.1.map D.str).length (s.1:Int).toNat ys=true then R.ok (D.lst false (nB (s.2.1.map D.str).length (s.1:Int).toNat ys)) else .no
  | none=>.no)=_
 rw [jF]
 dsimp only
 rw [if_pos ⟨⟨by omega,by omega⟩,by rw [List.length_map];omega,by rw [List.length_map];exact hx⟩,List.length_map,nH];rfl
noncomputable def leF (Co:Addr):List D->R D:=fun ds=>au (mW crF frF rpF peF (shG Co) (ar 7 ds))
theorem Ic {os:List Od} (h:∀ o∈os,okO o=true/\pZ o<=1) (hl:os.length<=900):shG C [.lst false (os.map oD)]=.ok (.lst false ((shO os).map oD)):=Lb (fun o ho=>(h o ho).1) (by omega)
theorem Fz {s:St} (h:GS s) {xs:List (List Nat)} (hx:bP s.2.1.length s.1 xs=true) (hb:4 * s.1 * (s.2.1.length+1)<=900) (f:Bool):leF C [sD s,.lst f (xs.map .str)]=.ok (.lst false ((shO (cO s (mw s.2.1.length s.1 xs))).map oD)):=by
 have c1:=Hr h hx f
 have c2:=HG h hx f
 have hg:=tZ hx
 generalize mw s.2.1.length s.1 xs=g at c2 hg ⊢
 have c3:=(Fj s.2.2.1 (old:=s.2.1.getD s.2.2.1 []) (new:=g.getD s.2.2.1 []) (c:=s.2.2.2) (by rw [(bM h h.r).1,(dY hg h.r).1]) (by rw [(bM h h.r).1];exact h.w2) (by rw [(bM h h.r).1];exact h.c)).1
 have c4:=Ic (C:=C) (iU h hg) (Nat.le_trans (lO h hg) hb)
 have i1:ixD (sD s) (.int 2)=some (.tup [.int (s.2.2.1:Int),.int (s.2.2.2:Int)]):=rfl
 have i2:ixD (.tup [.int (s.2.2.1:Int),.int (s.2.2.2:Int)]) (.int 0)=some (.int (s.2.2.1:Int)):=rfl
 have i3:ixD (.tup [.int (s.2.2.1:Int),.int (s.2.2.2:Int)]) (.int 1)=some (.int (s.2.2.2:Int)):=rfl
 have i4:ixD (sD s) (.int 1)=some (.tup (s.2.1.map .str)):=rfl
 have i5:ixD (.tup (s.2.1.map D.str)) (.int (s.2.2.1:Int))=some (.str (s.2.1.getD s.2.2.1 [])):=Ju (by rw [List.getElem?_map,List.getElem?_eq_getElem h.r,List.getD_eq_getElem?_getD,List.getElem?_eq_getElem h.r];rfl)
 have hr:=h.r
 have i6:ixD (.lst false (g.map D.str)) (.int (s.2.2.1:Int))=some (.str (g.getD s.2.2.1 [])):=JR (by rw [List.getElem?_map,List.getElem?_eq_getElem (by rw [hg.n];exact hr),List.getD_eq_getElem?_getD,List.getElem?_eq_getElem (by rw [hg.n];exact hr)];rfl)
 have i7:ixD (pD (qa s.2.2.1 (s.2.1.getD s.2.2.1 []) (g.getD s.2.2.1 []) s.2.2.2)) (.int 1)=some (.tup ((kq s g).map oD)):=rfl
 have i8:yb (.tup (s.2.1.map .str))=.ok ((List.range' 0 s.2.1.length).map fun (i:Nat)=>.tup [.int (i:Int),.str (s.2.1.getD i [])]):=by
  show R.ok (cK 0 (s.2.1.map .str))=_
  rw [xb]
 obtain ⟨y5,y6,lp0⟩:=xH (F1:=crF) (F2:=frF) (F3:=rpF) (F4:=shG C) (x0:=vD (sD s)) (x1:=vD (.lst f (xs.map .str))) h hg s.2.1.length 0 (kq s g) none none (by omega) (by have:=rq h hg;rw [Nat.mul_succ] at hb;omega)
 have lp:dw (Dh [5,6]) (lh crF frF rpF peF (shG C)) ((List.range' 0 s.2.1.length).map fun (i:Nat)=>.tup [.int (i:Int),.str (s.2.1.getD i [])]) [vD (sD s),vD (.lst f (xs.map .str)),vD (.lst false (g.map .str)),vD (.int (s.2.2.1:Int)),some (.own ((kq s g).map oD)),none,none]=.nx [vD (sD s),vD (.lst f (xs.map .str)),vD (.lst false (g.map .str)),vD (.int (s.2.2.1:Int)),some (.own ((cO s g).map oD)),y5,y6]:=lp0
 clear lp0
 show au (ay _ _ [vD (sD s),vD (.lst f (xs.map .str)),none,none,none,none,none])=_
 unfold uP uI uK uM uW vg
 clear hg hx hb hr h
 walk_at "run"
noncomputable def nZ (Co:Addr):List D->R D:=fun ds=>au (eW (leF Co) (coG Co) (ar 2 ds))
noncomputable def iw (s:St) (g:List (List Nat)):Nat:=((shO (cO s g)).map bA).sum
theorem HY {f:Bool} {os:List Od} (h:∀ o∈os,okO o=true) (hl:os.length<=1000):coG C [.lst f (os.map oD)]=.ok (.int ((os.map bA).sum:Nat)):=Jc h hl
theorem HS {s:St} (h:GS s) {xs:List (List Nat)} (hx:bP s.2.1.length s.1 xs=true) (hb:4 * s.1 * (s.2.1.length+1)<=900) (f:Bool):nZ C [sD s,.lst f (xs.map .str)]=.ok (.int (iw s (mw s.2.1.length s.1 xs):Int)):=by
 have e1:=Fz (C:=C) h hx hb f
 have hg:=tZ hx
 have b1:=lO h hg
 have b2:=(jp (cO s (mw s.2.1.length s.1 xs)) []).1
 have e2:=HY (C:=C) (f:=false) (FK fun o ho=>(iU h hg o ho).1) (by unfold shO;simp only [List.length_nil] at b2;omega)
 show au (ay _ _ [vD (sD s),vD (.lst f (xs.map .str))])=_
 unfold ji iw
 clear b1 b2 hg hb hx h
 walk_at "run"
noncomputable def Gm:List Nat:=[98,114,105,110,103]
section
variable {Cp Co:Addr}
noncomputable def JN (Co:Addr):MF:=KH fun sts _ _ b c ds=>match ds with
 | [r]=>(match nZ Co [b,r],frF [b,r],b with
  | .ok (.int pr),.ok (.lst false ys),.tup [w,_,pl]=>if sts.length<1000 then .ok (.int pr) (Jv (sts++[st3 (.str Gm) (.tup [w,.tup ys,pl]) (c+pr)]) []) else .no
  | _,_,_=>.no)
 | _=>.no
end
structure SpOk (l:List (Nat×Nat)) (j:Nat):Prop where
 e:∀ q∈l,1<=q.2/\q.1+q.2<=j
theorem rJ (f:Nat->List Od):∀ l:List Nat,((l.flatMap f).map bA).sum=(l.map fun i=>((f i).map bA).sum).sum
 | []=>rfl
 | i::l=>by rw [List.flatMap_cons,List.map_append,List.sum_append,rJ f l];simp
theorem tf (e:Nat->Nat) (r:Nat):∀ n,((List.range n).map fun i=>if i=r then 0 else e i).sum+(if r<n then e r else 0)=((List.range n).map e).sum
 | 0=>rfl
 | n+1=>by
  have ih:=tf e r n
  rw [List.range_succ,List.map_append,List.map_append,List.sum_append,List.sum_append]
  simp only [List.map_cons,List.map_nil,List.sum_cons,List.sum_nil]
  by_cases a:n=r
  ·subst a;rw [if_pos rfl,if_pos (by omega)];rw [if_neg (by omega)] at ih;omega
  ·rw [if_neg a]
   by_cases b:r<n
   ·rw [if_pos (by omega)];rw [if_pos b] at ih;omega
   ·rw [if_neg (by omega)];rw [if_neg b] at ih;omega
noncomputable def cnt (f:Nat->Bool) (b k:Nat):Nat:=((List.range' b k).filter f).length
noncomputable def b1 (b:Bool):Nat:=if b then 1 else 0
theorem fJ (f:Nat->Bool) (b k:Nat):cnt f b (k+1)=cnt f b k+b1 (f (b+k)):=by
 unfold cnt b1
 rw [List.range'_1_concat,List.filter_append,List.length_append]
 cases e:f (b+k) <;> simp [List.filter_cons,e]
theorem lw (f:Nat->Bool) (a k:Nat):cnt f 0 (a+k)=cnt f 0 a+cnt f a k:=by
 induction k with
 | zero=>simp [cnt]
 | succ k ih=>rw [<- Nat.add_assoc,fJ,fJ,ih,Nat.zero_add];omega
theorem zc {f g:Nat->Bool} {c:Nat} (h:∀ j,j≠c->g j=f j) (b:Nat):∀ k,cnt g b k<=cnt f b k+(if b<=c/\c<b+k then 1 else 0)
 | 0=>by simp [cnt]
 | k+1=>by
  have ih:=zc h b k
  rw [fJ,fJ]
  by_cases z:b+k=c
  ·rw [if_neg (by omega)] at ih
   rw [if_pos (by omega)]
   have:b1 (g (b+k))<=1:=by unfold b1;split <;> omega
   omega
  ·rw [h _ z]
   by_cases y:b<=c/\c<b+k
   ·rw [if_pos y] at ih;rw [if_pos (by omega)];omega
   ·rw [if_neg y] at ih;rw [if_neg (by omega)];omega
section
variable {m:Mp} {h w:Bool} {v n c:Nat}
theorem sP (H:Has m (h,w) v):Has (dL m n c) (h,w) v:=H.keep.keep.keep
theorem Gv (H:Has m (false,w) v):Has (dL m n c) (true,w) (v+2):=by
 cases w with
 | false=>exact H.move.keep.keep
 | true=>exact H.keep.keep.move
theorem Dk (H:Has m (true,false) v):Has (dL m n c) (true,true) (v+1):=H.keep.move.keep
theorem CT (H:Has m (false,false) v):Has (dL m n c) (true,true) (v+3):=by
 have:Has (dL m n c) (true,true) (v+2+1):=H.move.move.keep
 exact this
theorem BH {g p:Bool} (H:Has m (h,w) v) (a:h=true\/g=true):Has (dL m n c) (true,w || p) (v+2 * b1 g+b1 p):=by
 cases h with
 | true=>
  cases p with
  | false=>rw [Bool.or_false];exact (sP H).mono (by omega)
  | true=>
   cases w with
   | true=>exact (sP H).mono (by omega)
   | false=>exact (Dk H).mono (by show v+1<=v+_+1;omega)
 | false=>
  have e:g=true:=a.resolve_left (fun z=>by cases z)
  subst e
  cases p with
  | false=>rw [Bool.or_false];exact (Gv H).mono (by show v+2<=v+2 * 1+_;omega)
  | true=>
   cases w with
   | true=>exact (Gv H).mono (by show v+2<=v+2 * 1+1;omega)
   | false=>exact (CT H).mono (by show v+3<=v+2 * 1+1;omega)
theorem zM {new:List Nat} {s g p:Bool} (H:Has m (h,w) v) (a:s=true\/p=true->h=true\/g=true) (e:s=false->und (old.getD c 0) (w || p)=new.getD c 0):Has (uV n old new m c) (s,w || p) (v+b1 s+2 * b1 g+b1 p):=by
 unfold uV
 cases s with
 | true=>exact (BH (g:=g) (p:=p) H (a (.inl rfl))).say.mono (by show v+2 * b1 g+b1 p+1<=v+1+2 * b1 g+b1 p;omega)
 | false=>
  cases p with
  | true=>exact ((BH (g:=g) (p:=true) H (a (.inr rfl))).leave (e rfl)).mono (by show v+2 * b1 g+1<=v+0+2 * b1 g+1;omega)
  | false=>
   have e1:=e rfl
   rw [Bool.or_false] at e1 ⊢
   exact ((sP H).leave e1).mono (by omega)
end
noncomputable def wb (wp:Nat->Bool) (j:Nat):Bool:=(List.range j).any wp
theorem ze (wp:Nat->Bool) (j:Nat):wb wp (j+1)=(wb wp j || wp j):=by
 unfold wb;rw [List.range_succ,List.any_append,List.any_cons,List.any_nil,Bool.or_false]
theorem vm (n:Nat) {old new:List Nat} {sd gn wp:Nat->Bool} {b:Nat} {h0:Bool} (hw:wb wp b=false):∀ k,(∀ j,b<=j->j<b+k->sd j=false->und (old.getD j 0) (wb wp (j+1))=new.getD j 0)->(∀ j,b<=j->j<b+k->sd j=true\/wp j=true->(j=b/\h0=true)\/gn j=true\/(b<j/\sd (j - 1)=true))->
  Has ((List.range' b k).foldl (uV n old new) (m0 (h0,false))) ((if k=0 then h0 else sd (b+k - 1)),wb wp (b+k)) (cnt sd b k+2 * cnt gn b k+cnt wp b k)
 | 0,_,_=>by
  rw [if_pos rfl,Nat.add_zero,hw]
  exact (JX (h0,false)).mono (Nat.zero_le _)
 | k+1,p1,p2=>by
  have ih:=vm n (old:=old) (new:=new) (sd:=sd) (gn:=gn) (h0:=h0) hw k (fun j a b=>p1 j a (by omega)) (fun j a b=>p2 j a (by omega))
  rw [List.range'_1_concat,List.foldl_append,List.foldl_cons,List.foldl_nil,if_neg (Nat.succ_ne_zero k),show b+(k+1)=b+k+1 from rfl,Nat.add_sub_cancel,ze,fJ,fJ,fJ]
  refine (zM (s:=sd (b+k)) (g:=gn (b+k)) (p:=wp (b+k)) ih ?_ ?_).mono (by omega)
  ·intro q
   rcases p2 (b+k) (by omega) (by omega) q with ⟨z,z2⟩|z|⟨z,z2⟩
   ·have:k=0:=by omega
    rw [if_pos this];exact .inl z2
   ·exact .inr z
   ·rw [if_neg (by omega)];exact .inl z2
  ·intro q
   have:=p1 (b+k) (by omega) (by omega) q
   rw [ze] at this;exact this
theorem zx (n:Nat) {new:List Nat} {sd gn wp:Nat->Bool} (p1:∀ j,j<old.length->sd j=false->und (old.getD j 0) (wb wp (j+1))=new.getD j 0) (p2:∀ j,sd j=true\/wp j=true->gn j=true\/(0<j/\sd (j - 1)=true)) :
  (da n old new).1<=cnt sd 0 old.length+2 * cnt gn 0 old.length+cnt wp 0 old.length:=by
 have:=vm n (old:=old) (new:=new) (sd:=sd) (gn:=gn) (wp:=wp) (b:=0) (h0:=false) rfl old.length (fun j _ h=>p1 j (by omega)) (fun j _ _ q=>.inr (p2 j q))
 exact oF (k:=((if old.length=0 then false else sd (0+old.length - 1)),wb wp (0+old.length))) (by
  generalize (if old.length=0 then false else sd (0+old.length - 1))=x
  generalize wb wp (0+old.length)=y
  revert x y;decide) this
theorem ie {x:List Nat} {c:Nat} (h:j<c):(x.take c).getD j 0=x.getD j 0:=by
 rw [List.getD_eq_getElem?_getD,List.getElem?_take,if_pos h,List.getD_eq_getElem?_getD]
theorem yy (n:Nat) {new:List Nat} {sd gn wp:Nat->Bool} {c:Nat} (hc:c<=old.length) (p1:∀ j,j<old.length->sd j=false->und (old.getD j 0) (wb wp (j+1))=new.getD j 0) (p2:∀ j,sd j=true\/wp j=true->gn j=true\/(0<j/\sd (j - 1)=true)\/j=c) (lo:∀ w,w<c->wp w=false) :
  (cY n old new c).1<=cnt sd 0 old.length+2 * cnt gn 0 old.length+cnt wp 0 old.length:=by
 have hw:∀ j,j<=c->wb wp j=false:=fun j hj=>by
  unfold wb
  rw [List.any_eq_false]
  intro w hw
  rw [lo w (by have:=List.mem_range.1 hw;omega)];decide
 have r:=vm n (old:=old) (new:=new) (sd:=sd) (gn:=gn) (wp:=wp) (b:=c) (h0:=true) (hw c (Nat.le_refl _)) (old.length - c) (fun j _ h=>p1 j (by omega)) (fun j a _ q=>by
  rcases p2 j q with z|z|z
  ·exact .inr (.inl z)
  ·by_cases y:j=c
   ·exact .inl ⟨y,rfl⟩
   ·exact .inr (.inr ⟨by omega,z.2⟩)
  ·exact .inl ⟨z,rfl⟩)
 have r1:(fS n old new c).1<=_:=oF (k:=((if old.length - c=0 then true else sd (c+(old.length - c) - 1)),wb wp (c+(old.length - c)))) (by
  generalize (if old.length - c=0 then true else sd (c+(old.length - c) - 1))=x
  generalize wb wp (c+(old.length - c))=y
  revert x y;decide) r
 have lt:(old.take c).length=c:=by rw [List.length_take];omega
 have l:=vm n (old:=old.take c) (new:=new.take c) (sd:=sd) (gn:=gn) (wp:=wp) (b:=0) (h0:=false) rfl c (fun j _ h q=>by
   rw [ie (by omega),ie (by omega)];exact p1 j (by omega) q) (fun j _ h q=>by
  rcases p2 j q with z|z|z
  ·exact .inr (.inl z)
  ·exact .inr (.inr z)
  ·omega)
 rw [Nat.zero_add,hw c (Nat.le_refl _)] at l
 have l1:(jR n old new c).1<=_:=oF (m:=ff n (old.take c) (new.take c) 0 (m0 (false,false))) (k:=((if c=0 then false else sd (c - 1)),false)) (by
  generalize (if c=0 then false else sd (c - 1))=x
  revert x;decide) (by unfold ff;rw [lt,Nat.sub_zero];exact l)
 have s1:=lw sd c (old.length - c)
 have s2:=lw gn c (old.length - c)
 have s3:=lw wp c (old.length - c)
 rw [show c+(old.length - c)=old.length by omega] at s1 s2 s3
 show (fS n old new c).1+(jR n old new c).1<=_
 omega
structure Fl where
 sd:Nat->Nat->Bool
 gn:Nat->Nat->Bool
 wp:Nat->Nat->Bool
noncomputable def jK (f:Nat->Nat->Bool) (r c n:Nat):Nat->Nat->Bool:=fun i j=>(i==r && (decide (c<=j) && decide (j<c+n))) || f i j
theorem pq {f:Nat->Nat->Bool} {r c n:Nat} (h:i≠r) (j:Nat):jK f r c n i j=f i j:=by
 unfold jK;rw [beq_eq_false_iff_ne.2 h];rfl
theorem ib {f:Nat->Nat->Bool} {r c n:Nat} (h:f i j=true):jK f r c n i j=true:=by
 unfold jK;rw [h,Bool.or_true]
theorem fK {f:Nat->Nat->Bool} {r c n:Nat} (h1:c<=j) (h2:j<c+n):jK f r c n r j=true:=by
 unfold jK;rw [beq_self_eq_true,decide_eq_true h1,decide_eq_true h2];rfl
theorem oj {f:Nat->Nat->Bool} {r c n:Nat} (h:jK f r c n i j=true):(i=r/\c<=j/\j<c+n)\/f i j=true:=by
 unfold jK at h
 simp only [Bool.or_eq_true,Bool.and_eq_true,beq_iff_eq,decide_eq_true_eq] at h
 exact h
theorem Dx {f:Nat->Nat->Bool} {r c n:Nat} (h:jK f r c n i j=false) : ¬ (i=r/\c<=j/\j<c+n)/\f i j=false:=by
 constructor
 ·rintro ⟨rfl,a,b⟩;rw [fK a b] at h;cases h
 ·cases e:f i j with
  | false=>rfl
  | true=>rw [ib e] at h;cases h
theorem oU (f:Nat->Nat->Bool) (r c k:Nat):∀ n,cnt (jK f r c n r) 0 k<=cnt (f r) 0 k+n
 | 0=>by
  have:jK f r c 0 r=f r:=funext fun j=>by
   unfold jK
   by_cases h:c<=j
   ·rw [decide_eq_false (show ¬ j<c+0 by omega)];simp
   ·rw [decide_eq_false h];simp
  rw [this];exact Nat.le_refl _
 | n+1=>by
  have ih:=oU f r c k n
  have:=zc (f:=jK f r c n r) (g:=jK f r c (n+1) r) (c:=c+n) (fun j hj=>by
   unfold jK
   congr 2
   by_cases h:c<=j
   ·by_cases h2:j<c+n
    ·rw [decide_eq_true h2,decide_eq_true (show j<c+(n+1) by omega)]
    ·rw [decide_eq_false h2,decide_eq_false (show ¬ j<c+(n+1) by omega)]
   ·rw [decide_eq_false h];rfl) 0 k
  have z:(if 0<=c+n/\c+n<0+k then 1 else 0)<=1:=by split <;> omega
  omega
noncomputable def flS (s:St) (o:Od) (f:Fl):Fl:=match o with
 | .say x=>{ f with sd:=jK f.sd s.2.2.1 s.2.2.2 x.length }
 | .go n k=>{ f with gn:=jK f.gn n k 1 }
 | .wipe=>{ f with wp:=jK f.wp s.2.2.1 s.2.2.2 1 }
noncomputable def qc (wd:Nat) (f:Fl) (i:Nat):Nat:=cnt (f.sd i) 0 wd+2 * cnt (f.gn i) 0 wd+cnt (f.wp i) 0 wd
noncomputable def wU (m wd:Nat) (f:Fl):Nat:=((List.range m).map (qc wd f)).sum
theorem BL {g h:Nat->Nat} {r d:Nat} (e:∀ i,i≠r->g i=h i) (l:g r<=h r+d):∀ m,((List.range m).map g).sum<=((List.range m).map h).sum+(if r<m then d else 0)
 | 0=>by simp
 | m+1=>by
  have ih:=BL e l m
  rw [List.range_succ,List.map_append,List.map_append,List.sum_append,List.sum_append]
  simp only [List.map_cons,List.map_nil,List.sum_cons,List.sum_nil]
  by_cases z:m=r
  ·subst z;rw [if_neg (by omega)] at ih;rw [if_pos (by omega)];omega
  ·rw [e m z]
   by_cases y:r<m
   ·rw [if_pos y] at ih;rw [if_pos (by omega)];omega
   ·rw [if_neg y] at ih;rw [if_neg (by omega)];omega
theorem pF (m wd:Nat) (s:St) (o:Od) (f:Fl):wU m wd (flS s o f)<=wU m wd f+bA o:=by
 have key:∀ r,(∀ i,i≠r->qc wd (flS s o f) i=qc wd f i)->qc wd (flS s o f) r<=qc wd f r+bA o->wU m wd (flS s o f)<=wU m wd f+bA o:=fun r a b=>by
  have:=BL a b m
  have z:(if r<m then bA o else 0)<=bA o:=by split <;> omega
  unfold wU;omega
 cases o with
 | say x=>
  refine key s.2.2.1 (fun i hi=>?_) ?_
  ·unfold qc;rw [show (flS s (.say x) f).sd i=f.sd i from funext fun j=>pq hi j];rfl
  ·have:=oU f.sd s.2.2.1 s.2.2.2 wd x.length
   show cnt (jK f.sd s.2.2.1 s.2.2.2 x.length s.2.2.1) 0 wd+_+_<=_+x.length
   unfold qc;show _+2 * cnt (f.gn _) 0 wd+cnt (f.wp _) 0 wd<=_;omega
 | go n k=>
  refine key n (fun i hi=>?_) ?_
  ·unfold qc;rw [show (flS s (.go n k) f).gn i=f.gn i from funext fun j=>pq hi j];rfl
  ·have:=oU f.gn n k wd 1
   show _+2 * cnt (jK f.gn n k 1 n) 0 wd+_<=_+2
   unfold qc;show cnt (f.sd _) 0 wd+_+cnt (f.wp _) 0 wd<=_;omega
 | wipe=>
  refine key s.2.2.1 (fun i hi=>?_) ?_
  ·unfold qc;rw [show (flS s .wipe f).wp i=f.wp i from funext fun j=>pq hi j];rfl
  ·have:=oU f.wp s.2.2.1 s.2.2.2 wd 1
   show _+_+cnt (jK f.wp s.2.2.1 s.2.2.2 1 s.2.2.1) 0 wd<=_+1
   unfold qc;show cnt (f.sd _) 0 wd+2 * cnt (f.gn _) 0 wd+_<=_;omega
structure Iv (s0:St) (b:Bool) (f:Fl) (s:St):Prop where
 wd:s.1=s0.1
 m:s.2.1.length=s0.2.1.length
 row:∀ i j,i<s0.2.1.length->j<s0.1->f.sd i j=false->(s.2.1.getD i []).getD j 0=und ((s0.2.1.getD i []).getD j 0) (wb (f.wp i) (j+1))
 at':∀ i j,f.sd i j=true\/f.wp i j=true->f.gn i j=true\/(0<j/\f.sd i (j - 1)=true)\/(b=true/\i=s0.2.2.1/\j=s0.2.2.2)
 pl:f.gn s.2.2.1 s.2.2.2=true\/(0<s.2.2.2/\f.sd s.2.2.1 (s.2.2.2 - 1)=true)\/(b=true/\s.2.2.1=s0.2.2.1/\s.2.2.2=s0.2.2.2)
theorem wW {f:Nat->Nat->Bool} {r c:Nat} (h:i≠r) (j:Nat):wb (jK f r c 1 i) j=wb (f i) j:=by
 rw [show jK f r c 1 i=f i from funext fun k=>pq h k]
theorem zi {f:Nat->Bool} {c:Nat} (h:f c=true) (hc:c<j):wb f j=true:=by
 unfold wb;rw [List.any_eq_true];exact ⟨c,List.mem_range.2 hc,h⟩
theorem xi {f:Nat->Nat->Bool} {r c:Nat} (h:j<=c):wb (jK f r c 1 r) j=wb (f r) j:=by
 unfold wb
 rw [Bool.eq_iff_iff,List.any_eq_true,List.any_eq_true]
 constructor
 ·rintro ⟨k,hk,e⟩
  refine ⟨k,hk,?_⟩
  rcases oj e with z|z
  ·have:=List.mem_range.1 hk;omega
  ·exact z
 ·rintro ⟨k,hk,e⟩
  exact ⟨k,hk,ib e⟩
theorem dW {rows:List (List Nat)} {r:Nat} {x:List Nat}:(rows.set r x).getD i []=if i=r/\r<rows.length then x else rows.getD i []:=by
 rw [List.getD_eq_getElem?_getD,List.getD_eq_getElem?_getD,List.getElem?_set]
 by_cases h:r=i
 ·subst h
  rw [if_pos rfl]
  by_cases h2:r<rows.length
  ·rw [if_pos h2,if_pos ⟨rfl,h2⟩];rfl
  ·rw [if_neg h2,if_neg (by omega),List.getElem?_eq_none (by omega)]
 ·rw [if_neg h,if_neg (by omega)]
theorem Iv.step {s0 s s':St} {b:Bool} {f:Fl} {o:Od} (v:Iv s0 b f s) (h:GS s) (ho:okO o=true) (e:bp s o=some s'):Iv s0 b (flS s o f) s':=by
 obtain ⟨wd,rows,r,c⟩:=s
 have hr:r<rows.length:=h.r
 have hc:c<=wd:=h.c
 have hl:(rows.getD r []).length=wd:=(h.l _ (fF hr)).1
 obtain ⟨v1,v2,v3,v4,v5⟩:=v
 dsimp only at v1 v2 v3 v5
 cases o with
 | say x=>
  simp only [okO,Bool.and_eq_true,decide_eq_true_eq] at ho
  simp only [bp] at e
  split at e
  ·cases e
  ·rename_i hn
   cases e
   refine ⟨v1,by rw [<- v2];simp,fun i j hi hj q=>?_,fun i j q=>?_,?_⟩
   ·obtain ⟨q1,q2⟩:=Dx q
    dsimp only at q1
    show ((rows.set r _).getD i []).getD j 0=und ((s0.2.1.getD i []).getD j 0) (wb (f.wp i) (j+1))
    rw [<- v3 i j hi hj q2,dW]
    split
    ·rename_i z
     rw [z.1]
     generalize rows.getD r []=row at *
     rw [List.getD_eq_getElem?_getD,List.getD_eq_getElem?_getD]
     congr 1
     by_cases a:j<c
     ·rw [List.append_assoc,List.getElem?_append_left (by rw [List.length_take];omega),List.getElem?_take,if_pos a]
     ·rw [List.getElem?_append_right (by rw [List.length_append,List.length_take];omega),List.getElem?_drop]
      congr 1
      rw [List.length_append,List.length_take];omega
    ·rfl
   ·show f.gn i j=true\/(0<j/\jK f.sd r c x.length i (j - 1)=true)\/_
    have old:f.sd i j=true\/f.wp i j=true->f.gn i j=true\/(0<j/\jK f.sd r c x.length i (j - 1)=true)\/(b=true/\i=s0.2.2.1/\j=s0.2.2.2):=fun z=>(v4 i j z).imp id (fun z=>z.imp (fun z=>⟨z.1,ib z.2⟩) id)
    rcases q with q|q
    ·rcases oj q with ⟨rfl,a1,a2⟩|q
     ·by_cases y:j=c
      ·subst y
       exact v5.imp id (fun z=>z.imp (fun z=>⟨z.1,ib z.2⟩) id)
      ·exact .inr (.inl ⟨by dsimp only at a1;omega,fK (by dsimp only at a1 ⊢;omega) (by dsimp only at a2 ⊢;omega)⟩)
     ·exact old (.inl q)
    ·exact old (.inr q)
   ·exact .inr (.inl ⟨by dsimp only;omega,fK (by dsimp only;omega) (by dsimp only;omega)⟩)
 | go n k=>
  simp only [bp] at e
  split at e
  ·cases e
  ·cases e
   exact ⟨v1,v2,v3,fun i j q=>(v4 i j q).imp ib id,.inl (fK (Nat.le_refl _) (by dsimp only;omega))⟩
 | wipe=>
  simp only [bp] at e
  cases e
  refine ⟨v1,by rw [<- v2];simp,fun i j hi hj q=>?_,fun i j q=>?_,v5⟩
  ·show ((rows.set r _).getD i []).getD j 0=und _ (wb (jK f.wp r c 1 i) (j+1))
   by_cases y:i=r
   ·subst y
    rw [dW,if_pos ⟨rfl,hr⟩]
    have v:=v3 i j hi hj q
    generalize rows.getD i []=row at *
    by_cases a:j<c
    ·rw [xi (by omega),<- v,List.getD_eq_getElem?_getD,List.getD_eq_getElem?_getD,List.getElem?_append_left (by rw [List.length_take];omega),List.getElem?_take,if_pos a]
    ·rw [zi (fK (Nat.le_refl c) (by omega)) (by omega),List.getD_eq_getElem?_getD,List.getElem?_append_right (by rw [List.length_take];omega),List.getElem?_replicate,if_pos (by rw [List.length_take];omega)];rfl
   ·rw [wW y,dW,if_neg (by omega)];exact v3 i j hi hj q
  ·rcases q with q|q
   ·exact v4 i j (.inl q)
   ·rcases oj q with ⟨rfl,a1,a2⟩|q
    ·have:j=c:=by dsimp only at a1 a2;omega
     subst this;exact v5
    ·exact v4 i j (.inr q)
theorem Iv.run (m wd:Nat):∀ (os:List Od) {s0 s s':St} {b:Bool} {f:Fl},Iv s0 b f s->GS s->(∀ o∈os,okO o=true)->rn (some s) os=some s'->
  ∃ f',Iv s0 b f' s'/\wU m wd f'<=wU m wd f+(os.map bA).sum/\(∀ i j,f.wp i j=true->f'.wp i j=true)/\
   (∀ r0 c0,(∀ a q t,os=a++.wipe::q->rn (some s) a=some t->¬ (t.2.2.1=r0/\t.2.2.2<c0))->(∀ w,w<c0->f.wp r0 w=false)->∀ w,w<c0->f'.wp r0 w=false)
 | [],s0,s,s',b,f,v,_,_,e=>⟨f,by cases e;exact v,by simp,fun _ _ h=>h,fun _ _ _ h=>h⟩
 | o::os,s0,s,s',b,f,v,h,ho,e=>by
  have h1:=ho o (List.mem_cons_self ..)
  rw [gX] at e
  cases z:bp s o with
  | none=>rw [show ((some s).bind fun s=>bp s o)=none from z,fL] at e;cases e
  | some t=>
   rw [show ((some s).bind fun s=>bp s o)=some t from z] at e
   obtain ⟨f',v',c',w',l'⟩:=Iv.run m wd os (v.step h h1 z) (jC h h1 z) (fun o ho'=>ho o (List.mem_cons_of_mem _ ho')) e
   have c1:=pF m wd s o f
   refine ⟨f',v',by rw [List.map_cons,List.sum_cons];omega,fun i j q=>w' i j ?_,fun r0 c0 H lo=>l' r0 c0 (fun a q u e1 e2=>H (o::a) q u (by rw [e1];rfl) (by rw [gX,show ((some s).bind fun s=>bp s o)=some t from z];exact e2)) fun w hw=>?_⟩
   ·cases o with
    | wipe=>exact ib q
    | _=>exact q
   ·cases o with
    | wipe=>
     cases y:(flS s .wipe f).wp r0 w with
     | false=>rfl
     | true=>
      rcases oj y with y|y
      ·exact absurd ⟨y.1.symm,by omega⟩ (H [] os s rfl rfl)
      ·rw [lo w hw] at y;cases y
    | _=>exact lo w hw
noncomputable def flN:Fl:=⟨fun _ _=>false,fun _ _=>false,fun _ _=>false⟩
theorem wb0 (j:Nat):wb (fun _=>false) j=false:=by
 unfold wb;rw [List.any_eq_false];intro _ _ h;cases h
theorem iv0 (s:St):Iv s true flN s:=⟨rfl,rfl,fun i j _ _ _=>by show _=und _ (wb (fun _=>false) _);rw [wb0];rfl,fun i j q=>(by rcases q with q|q <;> cases q),.inr (.inr ⟨rfl,rfl,rfl⟩)⟩
theorem JI (m wd:Nat):wU m wd flN=0:=by
 have c0:cnt (fun _=>false) 0 wd=0:=by simp [cnt]
 have:∀ i,qc wd flN i=0:=fun i=>by show cnt (fun _=>false) 0 wd+2 * cnt (fun _=>false) 0 wd+cnt (fun _=>false) 0 wd=0;omega
 unfold wU
 induction m with
 | zero=>rfl
 | succ m ih=>rw [List.range_succ,List.map_append,List.sum_append,ih];simp [this]
structure Bh (r0 c0:Nat) (R:List (List Nat)) (s:St):Prop where
 r:s.2.2.1=r0
 c:c0<=s.2.2.2
 o:∀ i,i≠r0->s.2.1.getD i []=R.getD i []
 l:∀ j,j<c0->(s.2.1.getD r0 []).getD j 0=(R.getD r0 []).getD j 0
noncomputable def Gn:Od->Bool
 | .go _ _=>true
 | _=>false
theorem Bh.step {r0 c0:Nat} {R:List (List Nat)} {s s':St} {o:Od} (v:Bh r0 c0 R s) (h:GS s) (hg:Gn o=false) (e:bp s o=some s'):Bh r0 c0 R s':=by
 obtain ⟨wd,rows,r,c⟩:=s
 have hr:r<rows.length:=h.r
 have hl:(rows.getD r []).length=wd:=(h.l _ (fF hr)).1
 have hc:c<=wd:=h.c
 obtain ⟨v1,v2,v3,v4⟩:=v
 dsimp only at v1 v2 v3 v4
 subst v1
 cases o with
 | go n k=>cases hg
 | say x=>
  simp only [bp] at e
  split at e
  ·cases e
  ·cases e
   refine ⟨rfl,by dsimp only;omega,fun i hi=>by rw [<- v3 i hi];show (rows.set r _).getD i []=_;rw [dW,if_neg (by omega)],fun j hj=>?_⟩
   rw [<- v4 j hj]
   show ((rows.set r _).getD r []).getD j 0=_
   rw [dW,if_pos ⟨rfl,hr⟩]
   generalize rows.getD r []=row at *
   rw [List.getD_eq_getElem?_getD,List.getD_eq_getElem?_getD,List.append_assoc,List.getElem?_append_left (by rw [List.length_take];omega),List.getElem?_take,if_pos (by omega)]
 | wipe=>
  simp only [bp] at e
  cases e
  refine ⟨rfl,v2,fun i hi=>by rw [<- v3 i hi];show (rows.set r _).getD i []=_;rw [dW,if_neg (by omega)],fun j hj=>?_⟩
  rw [<- v4 j hj]
  show ((rows.set r _).getD r []).getD j 0=_
  rw [dW,if_pos ⟨rfl,hr⟩]
  generalize rows.getD r []=row at *
  rw [List.getD_eq_getElem?_getD,List.getD_eq_getElem?_getD,List.getElem?_append_left (by rw [List.length_take];omega),List.getElem?_take,if_pos (by omega)]
theorem vk {r0 c0:Nat} {R:List (List Nat)}:∀ (os:List Od) {s t:St},Bh r0 c0 R s->GS s->(∀ o∈os,okO o=true)->rn (some s) os=some t->
  Bh r0 c0 R t\/∃ p n k q s1 s2,os=p++.go n k::q/\GS s1/\Bh r0 c0 R s1/\bp s1 (.go n k)=some s2/\rn (some s2) q=some t/\s1.1=s.1/\s1.2.1.length=s.2.1.length/\okO (.go n k)=true
 | [],s,t,v,_,_,e=>by cases e;exact .inl v
 | o::os,s,t,v,h,ho,e=>by
  have h1:=ho o (List.mem_cons_self ..)
  rw [gX] at e
  cases z:bp s o with
  | none=>rw [show ((some s).bind fun s=>bp s o)=none from z,fL] at e;cases e
  | some u=>
   rw [show ((some s).bind fun s=>bp s o)=some u from z] at e
   cases g:Gn o with
   | true=>
    cases o with
    | go n k=>exact .inr ⟨[],n,k,os,s,u,rfl,h,v,z,e,rfl,rfl,h1⟩
    | say x=>cases g
    | wipe=>cases g
   | false=>
    rcases vk os (v.step h g z) (jC h h1 z) (fun o ho'=>ho o (List.mem_cons_of_mem _ ho')) e with w|⟨p,n,k,q,s1,s2,e1,e2,e3,e4,e5,e6,e7,e8⟩
    ·exact .inl w
    ·refine .inr ⟨o::p,n,k,q,s1,s2,by rw [e1];rfl,e2,e3,e4,e5,?_,?_,e8⟩
     ·have:=(Iv.step (iv0 s) h h1 z).wd;rw [e6];exact this
     ·have:=(Iv.step (iv0 s) h h1 z).m;rw [e7];exact this
section
variable {s s0 s':St} {g:List (List Nat)} {f:Fl}
theorem BN (i:Nat) (hi:i<s.2.1.length) (h:GS s) (p1:∀ j,j<s.1->f.sd i j=false->(g.getD i []).getD j 0=und ((s.2.1.getD i []).getD j 0) (wb (f.wp i) (j+1))) (p2:∀ j,f.sd i j=true\/f.wp i j=true->f.gn i j=true\/(0<j/\f.sd i (j - 1)=true)) :
  (da i (s.2.1.getD i []) (g.getD i [])).1<=qc s.1 f i:=by
 have e:=(bM h hi).1
 have:=zx i (old:=s.2.1.getD i []) (new:=g.getD i []) (sd:=f.sd i) (gn:=f.gn i) (wp:=f.wp i) (fun j hj q=>(p1 j (by omega) q).symm) p2
 rw [e] at this;exact this
theorem si {a b:Nat->Nat}:∀ m,(∀ i,i<m->a i<=b i)->((List.range m).map a).sum<=((List.range m).map b).sum
 | 0,_=>Nat.le_refl _
 | m+1,h=>by
  have ih:=si m fun i hi=>h i (by omega)
  have:=h m (by omega)
  rw [List.range_succ,List.map_append,List.map_append,List.sum_append,List.sum_append]
  simp only [List.map_cons,List.map_nil,List.sum_cons,List.sum_nil];omega
theorem tE (h:GS s) (hg:GL s g):((cO s g).map bA).sum=(qa s.2.2.1 (s.2.1.getD s.2.2.1 []) (g.getD s.2.2.1 []) s.2.2.2).1+((List.range s.2.1.length).map fun i=>if i=s.2.2.1 then 0 else (da i (s.2.1.getD i []) (g.getD i [])).1).sum:=by
 have hm:=h.m
 unfold cO
 rw [List.map_append,List.sum_append,rJ,<- List.range_eq_range']
 have r1:=yJ (n:=s.2.2.1) (c:=s.2.2.2) (by have:=h.r;omega) (by rw [(bM h h.r).1];exact h.w2) (by rw [(bM h h.r).1,(dY hg h.r).1]) (dY hg h.r).2 (by rw [(bM h h.r).1];exact h.c)
 have r3:((kq s g).map bA).sum=(qa s.2.2.1 (s.2.1.getD s.2.2.1 []) (g.getD s.2.2.1 []) s.2.2.2).1:=r1.2.symm
 rw [r3]
 congr 2
 refine List.map_congr_left fun i hi=>?_
 have hi:=List.mem_range.1 hi
 unfold sw
 split
 ·rfl
 ·exact (om (n:=i) (by omega) (by rw [(bM h hi).1];exact h.w2) (by rw [(bM h hi).1,(dY hg hi).1]) (dY hg hi).2).2.symm
theorem yd (h:GS s) (hg:GL s g) {os:List Od} (ho:∀ o∈os,okO o=true) (e:rn (some s) os=some s') (e2:s'.2.1=g):iw s g<=(os.map bA).sum:=by
 have a1:=(jp (cO s g) []).2
 have a2:=tE h hg
 have so:=tf (fun i=>(da i (s.2.1.getD i []) (g.getD i [])).1) s.2.2.1 s.2.1.length
 rw [if_pos h.r] at so
 simp only [List.map_nil,List.sum_nil,Nat.zero_add] at a1
 unfold iw shO
 have hold:(s.2.1.getD s.2.2.1 []).length=s.1:=(bM h h.r).1
 by_cases H:∃ a q t,os=a++.wipe::q/\rn (some s) a=some t/\t.2.2.1=s.2.2.1/\t.2.2.2<s.2.2.2
 ·obtain ⟨a,q,t,rfl,ea,t1,t2⟩:=H
  have hoa:∀ o∈a,okO o=true:=fun o h=>ho o (List.mem_append_left _ h)
  have hoq:∀ o∈q,okO o=true:=fun o h=>ho o (List.mem_append_right _ (List.mem_cons_of_mem _ h))
  rcases vk (r0:=s.2.2.1) (c0:=s.2.2.2) (R:=s.2.1) a ⟨rfl,Nat.le_refl _,fun _ _=>rfl,fun _ _=>rfl⟩ h hoa ea with z|⟨p,n,k,a2',s1,s2,rfl,g1,b1,st,ra,w1,m1,okg⟩
  ·have:=z.c;omega
  ·have hoa2:∀ o∈a2',okO o=true:=fun o h=>hoa o (List.mem_append_right _ (List.mem_cons_of_mem _ h))
   have g2:=jC g1 okg st
   have v1:Iv s1 false (flS s1 (.go n k) flN) s2:=by
    simp only [bp] at st
    split at st
    ·cases st
    ·cases st
     exact ⟨rfl,rfl,fun i j _ _ _=>by show _=und _ (wb (fun _=>false) _);rw [wb0];rfl,fun i j q=>(by rcases q with q|q <;> cases q),.inl (fK (Nat.le_refl _) (by dsimp only;omega))⟩
   have c1:=pF s.2.1.length s.1 s1 (.go n k) flN
   rw [JI] at c1
   obtain ⟨f2,v2,c2,_,_⟩:=Iv.run s.2.1.length s.1 a2' v1 g2 hoa2 ra
   have gt:=zU _ g2 hoa2 ra
   rw [ir,ea,gX] at e
   have st2:bp t .wipe=some (t.1,t.2.1.set t.2.2.1 ((t.2.1.getD t.2.2.1 []).take t.2.2.2++List.replicate (t.1 - t.2.2.2) 32),t.2.2.1,t.2.2.2):=rfl
   rw [show ((some t).bind fun s=>bp s .wipe)=_ from st2] at e
   have v3:=v2.step gt rfl st2
   have c3:=pF s.2.1.length s.1 t .wipe f2
   obtain ⟨f4,v4,c4,w4,_⟩:=Iv.run s.2.1.length s.1 q v3 (jC gt rfl st2) hoq e
   have low:f4.wp s.2.2.1 t.2.2.2=true:=w4 _ _ (by rw [<- t1];exact fK (Nat.le_refl _) (by omega))
   have tot:wU s.2.1.length s.1 f4<=((p++.go n k::a2'++.wipe::q).map bA).sum:=by
    simp only [List.map_append,List.map_cons,List.sum_append,List.sum_cons]
    omega
   have each:∀ i,i<s.2.1.length->(da i (s.2.1.getD i []) (g.getD i [])).1<=qc s.1 f4 i:=fun i hi=>by
    refine BN i hi h (fun j hj q=>?_) fun j q=>?_
    ·have:=v4.row i j (by rw [m1];exact hi) (by rw [w1];exact hj) q
     rw [e2] at this
     rw [this]
     by_cases y:i=s.2.2.1
     ·subst y
      by_cases x:j<s.2.2.2
      ·rw [b1.l j x]
      ·rw [zi low (by omega)];rfl
     ·rw [b1.o i y]
    ·rcases v4.at' i j q with z|z|z
     ·exact .inl z
     ·exact .inr z
     ·cases z.1
   have sm:=si s.2.1.length each
   have mn:(qa s.2.2.1 (s.2.1.getD s.2.2.1 []) (g.getD s.2.2.1 []) s.2.2.2).1<=(da s.2.2.1 (s.2.1.getD s.2.2.1 []) (g.getD s.2.2.1 [])).1:=gB _ _ _ (by simp)
   unfold wU at tot
   omega
 ·obtain ⟨f',v',c',_,l'⟩:=Iv.run s.2.1.length s.1 os (iv0 s) h ho e
  have low:=l' s.2.2.1 s.2.2.2 (fun a q t e1 e3 e4=>H ⟨a,q,t,e1,e3,e4.1,e4.2⟩) fun _ _=>rfl
  rw [JI] at c'
  have row:∀ i j,i<s.2.1.length->j<s.1->f'.sd i j=false->(g.getD i []).getD j 0=und ((s.2.1.getD i []).getD j 0) (wb (f'.wp i) (j+1)):=fun i j hi hj q=>by
   have:=v'.row i j hi hj q
   rw [e2] at this;exact this
  have pm:=yy s.2.2.1 (old:=s.2.1.getD s.2.2.1 []) (new:=g.getD s.2.2.1 []) (sd:=f'.sd s.2.2.1) (gn:=f'.gn s.2.2.1) (wp:=f'.wp s.2.2.1) (c:=s.2.2.2) (by rw [hold];exact h.c) (fun j hj q=>(row _ j h.r (by omega) q).symm) (fun j q=>(v'.at' _ j q).imp id (fun z=>z.imp id fun z=>z.2.2)) low
  rw [hold] at pm
  have mn:(qa s.2.2.1 (s.2.1.getD s.2.2.1 []) (g.getD s.2.2.1 []) s.2.2.2).1<=(cY s.2.2.1 (s.2.1.getD s.2.2.1 []) (g.getD s.2.2.1 []) s.2.2.2).1:=gB _ _ _ (by simp)
  have each:∀ i,i<s.2.1.length->(if i=s.2.2.1 then 0 else (da i (s.2.1.getD i []) (g.getD i [])).1)<=(if i=s.2.2.1 then 0 else qc s.1 f' i):=fun i hi=>by
   by_cases y:i=s.2.2.1
   ·rw [if_pos y,if_pos y];exact Nat.le_refl _
   ·rw [if_neg y,if_neg y]
    refine BN i hi h (fun j hj q=>row i j hi hj q) fun j q=>?_
    rcases v'.at' i j q with z|z|z
    ·exact .inl z
    ·exact .inr z
    ·exact absurd z.2.1 y
  have sm:=si s.2.1.length each
  have so2:=tf (qc s.1 f') s.2.2.1 s.2.1.length
  rw [if_pos h.r] at so2
  unfold wU at c'
  have pm':(cY s.2.2.1 (s.2.1.getD s.2.2.1 []) (g.getD s.2.2.1 []) s.2.2.2).1<=qc s.1 f' s.2.2.1:=pm
  omega
end
noncomputable def ce (row:List Nat) (nw:Nat->Nat) (b j:Nat) (w:Bool) (i:Nat):Nat:=if i<b then row.getD i 0 else if i<j then nw i else und (row.getD i 0) w
noncomputable def tg (row:List Nat) (nw:Nat->Nat) (b j:Nat) (w:Bool):List Nat:=(List.range row.length).map (ce row nw b j w)
theorem ki (row:List Nat) (nw:Nat->Nat) (b j:Nat) (w:Bool):(tg row nw b j w).length=row.length:=by unfold tg;rw [List.length_map,List.length_range]
section
variable {n b j i:Nat} {row x:List Nat} {nw:Nat->Nat} {h0 w:Bool}
theorem ce1 (h:i<b):ce row nw b j w i=row.getD i 0:=if_pos h
theorem ce2 (h1:b<=i) (h2:i<j):ce row nw b j w i=nw i:=by unfold ce;rw [if_neg (by omega),if_pos h2]
theorem ce3 (hb:b<=j) (h:j<=i):ce row nw b j w i=und (row.getD i 0) w:=by unfold ce;rw [if_neg (by omega),if_neg (by omega)]
theorem ly (h:i<row.length):(tg row nw b j w)[i]?=some (ce row nw b j w i):=by
 unfold tg;rw [List.getElem?_map,List.getElem?_range h];rfl
theorem wn (hl:x.length=row.length) (h:∀ i,i<row.length->x[i]?=some (ce row nw b j w i)):x=tg row nw b j w:=by
 refine List.ext_getElem? fun i=>?_
 by_cases hi:i<row.length
 ·rw [h i hi,ly hi]
 ·rw [List.getElem?_eq_none (by omega),List.getElem?_eq_none (by rw [ki];omega)]
theorem zS (row:List Nat) (nw:Nat->Nat) (b:Nat):row=tg row nw b b false:=by
 refine wn rfl fun i hi=>?_
 have:row[i]?=some (row.getD i 0):=jh hi
 rw [this]
 by_cases z:i<b
 ·rw [ce1 z]
 ·rw [ce3 (Nat.le_refl _) (by omega)];rfl
theorem CN (hb:b<=j) (hj:j<=row.length):(tg row nw b j false).take j++List.replicate (row.length - j) 32=tg row nw b j true:=by
 have l:=ki row nw b j false
 refine wn (by rw [List.length_append,List.length_take,List.length_replicate];omega) fun i hi=>?_
 by_cases z:i<j
 ·rw [List.getElem?_append_left (by rw [List.length_take];omega),List.getElem?_take,if_pos z,ly hi]
  by_cases y:i<b
  ·rw [ce1 y,ce1 y]
  ·rw [ce2 (by omega) z,ce2 (by omega) z]
 ·rw [List.getElem?_append_right (by rw [List.length_take];omega),List.getElem?_replicate,if_pos (by rw [List.length_take];omega),ce3 hb (by omega)];rfl
theorem Ef (hb:b<=j) (hj:j<row.length):(tg row nw b j w).take j++[nw j]++(tg row nw b j w).drop (j+1)=tg row nw b (j+1) w:=by
 have l:=ki row nw b j w
 refine wn (by rw [List.length_append,List.length_append,List.length_take,List.length_drop,List.length_cons,List.length_nil];omega) fun i hi=>?_
 by_cases z:i<j
 ·rw [List.append_assoc,List.getElem?_append_left (by rw [List.length_take];omega),List.getElem?_take,if_pos z,ly hi]
  by_cases y:i<b
  ·rw [ce1 y,ce1 y]
  ·rw [ce2 (by omega) z,ce2 (by omega) (by omega)]
 ·by_cases y:i=j
  ·subst y
   rw [List.append_assoc,List.getElem?_append_right (by rw [List.length_take];omega),List.length_take,show i - min i (tg row nw b i w).length=0 by omega,ce2 hb (by omega)];rfl
  ·rw [List.getElem?_append_right (by rw [List.length_append,List.length_take,List.length_cons,List.length_nil];omega),List.getElem?_drop,List.length_append,List.length_take,List.length_cons,List.length_nil,show j+1+(i - (min j (tg row nw b j w).length+(0+1)))=i by omega,ly hi,ce3 hb (by omega),ce3 (by omega) (by omega)]
theorem Al (hb:b<=j) (hj:j<row.length) (e:und (row.getD j 0) w=nw j):tg row nw b j w=tg row nw b (j+1) w:=by
 refine wn (ki ..) fun i hi=>?_
 rw [ly hi]
 by_cases z:i<b
 ·rw [ce1 z,ce1 z]
 ·by_cases y:i<j
  ·rw [ce2 (by omega) y,ce2 (by omega) (by omega)]
  ·by_cases q:i=j
   ·subst q;rw [ce3 hb (Nat.le_refl _),ce2 hb (by omega),e]
   ·rw [ce3 hb (by omega),ce3 (by omega) (by omega)]
noncomputable def Rch (n:Nat) (row:List Nat) (nw:Nat->Nat) (b:Nat) (h0:Bool) (j:Nat) (k:Ky) (p:Pl):Prop:=∀ (R:List (List Nat)) (r c:Nat),n<R.length->R.getD n []=row->(h0=true->r=n/\c=b)->
 ∃ r' c',rn (some (row.length,R,r,c)) p.2=some (row.length,R.set n (tg row nw b j k.2),r',c')/\(k.1=true->r'=n/\c'=j)
theorem lM {R:List (List Nat)} {x:List Nat} (h:n<R.length):(R.set n x).getD n []=x:=by rw [dW,if_pos ⟨rfl,h⟩]
theorem EC {R:List (List Nat)} (h:n<R.length):R.set n (R.getD n [])=R:=by
 rw [List.getD_eq_getElem?_getD,List.getElem?_eq_getElem h];exact List.set_getElem_self h
theorem Rch.start:Rch n row nw b h0 b (h0,false) (0,[]):=fun R r c hn hr hp=>⟨r,c,by
 show some _=_
 rw [show (h0,false).2=false from rfl,<- zS,<- hr,EC hn],hp⟩
theorem xc (a:Option St) (os:List Od) (o:Od):rn a (os++[o])=(rn a os).bind fun s=>bp s o:=by rw [ir];rfl
theorem Rch.go {p:Pl} (h:Rch n row nw b h0 j (false,w) p) (hj:j<=row.length):Rch n row nw b h0 j (true,w) (iT p (.go n j)):=fun R r c hn hr hp=>by
 obtain ⟨r',c',e,_⟩:=h R r c hn hr hp
 refine ⟨n,j,?_,fun _=>⟨rfl,rfl⟩⟩
 show rn _ (p.2++[.go n j])=_
 rw [xc,e]
 exact if_neg (by simp only [List.length_set];omega)
theorem Rch.wipe {p:Pl} (h:Rch n row nw b h0 j (true,false) p) (hb:b<=j) (hj:j<=row.length):Rch n row nw b h0 j (true,true) (iT p .wipe):=fun R r c hn hr hp=>by
 obtain ⟨r',c',e,q⟩:=h R r c hn hr hp
 obtain ⟨rfl,rfl⟩:=q rfl
 refine ⟨r',c',?_,fun _=>⟨rfl,rfl⟩⟩
 show rn _ (p.2++[.wipe])=_
 rw [xc,e]
 show some (row.length,(R.set r' (tg row nw b c' false)).set r' (((R.set r' (tg row nw b c' false)).getD r' []).take c'++List.replicate (row.length - c') 32),r',c')=_
 rw [lM hn,CN hb hj,List.set_set]
theorem Rch.say {p:Pl} (h:Rch n row nw b h0 j (true,w) p) (hb:b<=j) (hj:j<row.length):Rch n row nw b h0 (j+1) (true,w) (iT p (.say [nw j])):=fun R r c hn hr hp=>by
 obtain ⟨r',c',e,q⟩:=h R r c hn hr hp
 obtain ⟨rfl,rfl⟩:=q rfl
 refine ⟨r',c'+1,?_,fun _=>⟨rfl,rfl⟩⟩
 show rn _ (p.2++[.say [nw c']])=_
 rw [xc,e]
 show (if row.length<c'+1 then none else some (row.length,(R.set r' (tg row nw b c' w)).set r' (((R.set r' (tg row nw b c' w)).getD r' []).take c'++[nw c']++((R.set r' (tg row nw b c' w)).getD r' []).drop (c'+1)),r',c'+1))=_
 rw [if_neg (by omega),lM hn,Ef hb hj,List.set_set]
theorem Rch.leave {p:Pl} {a:Bool} (h:Rch n row nw b h0 j (a,w) p) (hb:b<=j) (hj:j<row.length) (e:und (row.getD j 0) w=nw j):Rch n row nw b h0 (j+1) (false,w) p:=fun R r c hn hr hp=>by
 obtain ⟨r',c',e1,_⟩:=h R r c hn hr hp
 exact ⟨r',c',by rw [e1];show some (_,R.set n (tg row nw b j w),_,_)=_;rw [Al hb hj e],fun z=>by cases z⟩
theorem zh {P:Ky->Pl->Prop} {m:Mp} {a c:Ky} {o:Od} (h:All P m) (ho:∀ p,P a p->P c (iT p o)):All P (move m a c o):=by
 unfold move
 split
 ·rename_i q e;exact h.offer (ho q (h.at e))
 ·exact h
theorem Rch.cols {new:List Nat} (hl:∀ i,i<old.length->old.getD i 0=row.getD i 0) (hn:∀ i,i<old.length->new.getD i 0=nw i) (hw:old.length<=row.length):∀ k,b+k<=old.length->All (Rch n row nw b h0 (b+k)) ((List.range' b k).foldl (uV n old new) (m0 (h0,false)))
 | 0,_=>fun z hz=>by rw [List.mem_singleton.1 hz];exact Rch.start
 | k+1,h=>by
  have ih:=Rch.cols hl hn hw k (by omega)
  rw [List.range'_1_concat,List.foldl_append,List.foldl_cons,List.foldl_nil]
  show All (Rch n row nw b h0 (b+k+1)) _
  have mv:All (Rch n row nw b h0 (b+k)) (dL ((List.range' b k).foldl (uV n old new) (m0 (h0,false))) n (b+k)):=
   zh (zh (zh ih fun p hp=>hp.go (by omega)) fun p hp=>hp.wipe (by omega) (by omega)) fun p hp=>hp.go (by omega)
  refine oT mv (fun q p hp e=>?_) fun q p hp e=>?_
  ·rw [hn _ (by omega)]
   obtain ⟨a,w⟩:=q
   cases e
   exact Rch.say hp (by omega) (by omega)
  ·rw [hn _ (by omega),hl _ (by omega)] at e
   exact Rch.leave (a:=q.1) hp (by omega) (by omega) e
end
theorem mr {m:Mp} {ks:List Ky} (h:fg m ks≠[]):∃ k∈ks,m.lookup k=some (gP m ks):=by
 obtain ⟨k,hk,e⟩:=List.mem_filterMap.1 (qi h)
 exact ⟨k,hk,e⟩
section
variable {n c:Nat} {old new:List Nat}
theorem ul (hl:new.length=old.length) (hw:old.length<=40):∀ (R:List (List Nat)) (r c:Nat),n<R.length->R.getD n []=old->∃ r' c',rn (some (old.length,R,r,c)) (da n old new).2=some (old.length,R.set n new,r',c'):=by
 have a:=Rch.cols (n:=n) (row:=old) (nw:=fun i=>new.getD i 0) (b:=0) (h0:=false) (old:=old) (new:=new) (fun _ _=>rfl) (fun _ _=>rfl) (Nat.le_refl _) old.length (by omega)
 obtain ⟨k,_,e⟩:=mr (ks:=allK) (pK gd0 n (b:=0) hl (Nat.zero_le _) (by omega)).2.all
 unfold ff at e
 rw [Nat.sub_zero] at e
 have p:=a.at e
 intro R r c hn hr
 obtain ⟨r',c',e1,_⟩:=p R r c hn hr (fun z=>by cases z)
 refine ⟨r',c',?_⟩
 rw [show (da n old new).2=(gP ((List.range' 0 old.length).foldl (uV n old new) (m0 (false,false))) allK).2 by unfold da ff;rw [Nat.sub_zero],e1]
 have:new=tg old (fun i=>new.getD i 0) 0 (0+old.length) k.2:=wn hl fun i hi=>by rw [ce2 (Nat.zero_le _) (by omega)];exact jh (by omega)
 rw [<- this]
theorem yX (hl:new.length=old.length) (hw:old.length<=40) (hc:c<=old.length) (R:List (List Nat)) (hn:n<R.length) (hr:R.getD n []=old):∃ r' c',rn (some (old.length,R,n,c)) (cY n old new c).2=some (old.length,R.set n new,r',c'):=by
 have a:=Rch.cols (n:=n) (row:=old) (nw:=fun i=>new.getD i 0) (b:=c) (h0:=true) (old:=old) (new:=new) (fun _ _=>rfl) (fun _ _=>rfl) (Nat.le_refl _) (old.length - c) (by omega)
 obtain ⟨k,_,e⟩:=mr (ks:=allK) (pK gd1 n (b:=c) hl hc (by omega)).2.all
 obtain ⟨r1,c1,e1,_⟩:=(a.at e) R n c hn hr (fun _=>⟨rfl,rfl⟩)
 have l1:(old.take c).length=c:=by rw [List.length_take];omega
 have l2:(new.take c).length=c:=by rw [List.length_take];omega
 have g1:∀ i,i<c->(tg old (fun i=>new.getD i 0) c (c+(old.length - c)) k.2).getD i 0=old.getD i 0:=fun i hi=>by
  rw [List.getD_eq_getElem?_getD,ly (by omega),ce1 hi];rfl
 have b:=Rch.cols (n:=n) (row:=tg old (fun i=>new.getD i 0) c (c+(old.length - c)) k.2) (nw:=fun i=>new.getD i 0) (b:=0) (h0:=false) (old:=old.take c) (new:=new.take c) (fun i hi=>by rw [ie (by omega),g1 i (by omega)]) (fun i hi=>ie (by omega)) (by rw [ki];omega) c (by omega)
 obtain ⟨k2,hk2,e2⟩:=mr (ks:=twoK) (pK gd0 n (b:=0) (old:=old.take c) (new:=new.take c) (by omega) (Nat.zero_le _) (by omega)).2.two
 have e3:=e2
 unfold ff at e3
 rw [Nat.sub_zero,l1] at e3
 obtain ⟨r2,c2,e4,_⟩:=(b.at e3) (R.set n (tg old (fun i=>new.getD i 0) c (c+(old.length - c)) k.2)) r1 c1 (by rw [List.length_set];exact hn) (lM hn) (fun z=>by cases z)
 have kf:k2.2=false:=by
  rcases List.mem_cons.1 hk2 with z|z
  ·rw [z]
  ·rw [List.mem_singleton.1 z]
 refine ⟨r2,c2,?_⟩
 show rn _ ((fS n old new c).2++(jR n old new c).2)=_
 rw [ir]
 have e1':rn (some (old.length,R,n,c)) (fS n old new c).2=_:=e1
 rw [e1']
 rw [ki,List.set_set,kf] at e4
 rw [show (jR n old new c).2=(gP ((List.range' 0 c).foldl (uV n (old.take c) (new.take c)) (m0 (false,false))) twoK).2 by unfold jR ff;rw [Nat.sub_zero,l1],e4]
 have fin:new=tg (tg old (fun i=>new.getD i 0) c (c+(old.length - c)) k.2) (fun i=>new.getD i 0) 0 (0+c) false:=by
  refine wn (by rw [ki];exact hl) fun i hi=>?_
  rw [ki] at hi
  rw [jh (show i<new.length by omega)]
  by_cases z:i<c
  ·rw [ce2 (Nat.zero_le _) (by omega)]
  ·rw [ce3 (Nat.zero_le _) (by omega),List.getD_eq_getElem?_getD (l:=tg _ _ _ _ _),ly hi,ce2 (by omega) (by omega)];rfl
 rw [<- fin]
theorem CB (hl:new.length=old.length) (hw:old.length<=40) (hc:c<=old.length) (R:List (List Nat)) (hn:n<R.length) (hr:R.getD n []=old):∃ r' c',rn (some (old.length,R,n,c)) (qa n old new c).2=some (old.length,R.set n new,r',c'):=by
 rcases List.mem_cons.1 (ig [da n old new] (cY n old new c)) with z|z
 ·unfold qa;rw [z];exact yX hl hw hc R hn hr
 ·unfold qa;rw [List.mem_singleton.1 z];exact ul hl hw R n c hn hr
end
section
variable {s:St} {g:List (List Nat)}
theorem vi (h:GS s) (hg:GL s g):∀ (k j:Nat) (R:List (List Nat)) (r c:Nat),j+k<=s.2.1.length->R.length=s.2.1.length->(∀ i,j<=i->i≠s.2.2.1->R.getD i []=s.2.1.getD i [])->
  ∃ R' r' c',rn (some (s.1,R,r,c)) ((List.range' j k).flatMap (sw s g))=some (s.1,R',r',c')/\R'.length=s.2.1.length/\∀ i,R'.getD i []=if j<=i/\i<j+k/\i≠s.2.2.1 then g.getD i [] else R.getD i []
 | 0,j,R,r,c,_,hR,_=>⟨R,r,c,rfl,hR,fun i=>by rw [if_neg (by omega)]⟩
 | k+1,j,R,r,c,hj,hR,hs=>by
  have step:∃ R1 r1 c1,rn (some (s.1,R,r,c)) (sw s g j)=some (s.1,R1,r1,c1)/\R1.length=s.2.1.length/\∀ i,R1.getD i []=if i=j/\i≠s.2.2.1 then g.getD i [] else R.getD i []:=by
   unfold sw
   by_cases z:j=s.2.2.1
   ·rw [if_pos z];exact ⟨R,r,c,rfl,hR,fun i=>by rw [if_neg (by omega)]⟩
   ·rw [if_neg z]
    have l1:=(bM h (show j<s.2.1.length by omega)).1
    have l2:=(dY hg (show j<s.2.1.length by omega)).1
    obtain ⟨r1,c1,e⟩:=ul (n:=j) (old:=s.2.1.getD j []) (new:=g.getD j []) (by omega) (by rw [l1];exact h.w2) R r c (by omega) (hs j (Nat.le_refl _) z)
    rw [l1] at e
    refine ⟨_,r1,c1,e,by rw [List.length_set];exact hR,fun i=>?_⟩
    rw [dW]
    by_cases y:i=j
    ·subst y;rw [if_pos ⟨rfl,by omega⟩,if_pos ⟨rfl,z⟩]
    ·rw [if_neg (by omega),if_neg (by omega)]
  obtain ⟨R1,r1,c1,e1,l1,g1⟩:=step
  obtain ⟨R2,r2,c2,e2,l2,g2⟩:=vi h hg k (j+1) R1 r1 c1 (by omega) l1 (fun i hi hn=>by rw [g1,if_neg (by omega)];exact hs i (by omega) hn)
  refine ⟨R2,r2,c2,?_,l2,fun i=>?_⟩
  ·rw [List.range'_succ,List.flatMap_cons,ir,e1];exact e2
  ·rw [g2,g1]
   by_cases z:j+1<=i/\i<j+1+k/\i≠s.2.2.1
   ·rw [if_pos z,if_pos (by omega)]
   ·rw [if_neg z]
    by_cases y:i=j/\i≠s.2.2.1
    ·rw [if_pos y,if_pos (by omega)]
    ·rw [if_neg y,if_neg (by omega)]
theorem xa (h:GS s) (hg:GL s g):∃ r c,rn (some s) (cO s g)=some (s.1,g,r,c):=by
 have l1:=(bM h h.r).1
 have l2:=(dY hg h.r).1
 obtain ⟨r1,c1,e1⟩:=CB (n:=s.2.2.1) (c:=s.2.2.2) (old:=s.2.1.getD s.2.2.1 []) (new:=g.getD s.2.2.1 []) (by omega) (by rw [l1];exact h.w2) (by rw [l1];exact h.c) s.2.1 h.r rfl
 rw [l1] at e1
 obtain ⟨R2,r2,c2,e2,l3,g2⟩:=vi h hg s.2.1.length 0 (s.2.1.set s.2.2.1 (g.getD s.2.2.1 [])) r1 c1 (by omega) (by rw [List.length_set]) (fun i _ hn=>by rw [dW,if_neg (by omega)])
 refine ⟨r2,c2,?_⟩
 unfold cO kq
 have e1':rn (some s) (qa s.2.2.1 (s.2.1.getD s.2.2.1 []) (g.getD s.2.2.1 []) s.2.2.2).2=_:=e1
 rw [ir,e1',e2]
 have:R2=g:=by
  refine List.ext_getElem? fun i=>?_
  by_cases hi:i<s.2.1.length
  ·have q:R2.getD i []=g.getD i []:=by
    rw [g2]
    by_cases z:i=s.2.2.1
    ·rw [if_neg (by omega),dW,if_pos ⟨z,h.r⟩,z]
    ·rw [if_pos (by omega)]
   have hi2:i<g.length:=by rw [hg.n];exact hi
   rw [List.getD_eq_getElem?_getD,List.getD_eq_getElem?_getD,List.getElem?_eq_getElem (by omega),List.getElem?_eq_getElem hi2] at q
   rw [List.getElem?_eq_getElem (by omega),List.getElem?_eq_getElem hi2]
   exact congrArg some q
  ·rw [List.getElem?_eq_none (by omega),List.getElem?_eq_none (by rw [hg.n];omega)]
 rw [this]
theorem Ax {s s1 s2:St} {l o j:Od} (h:GS s) (hj:eT l o=some j) (e1:bp s l=some s1) (e2:bp s1 o=some s2):bp s j=some s2:=by
 obtain ⟨wd,rows,r,c⟩:=s
 have h4:=h.r
 have h5:=h.c
 have h6:=h.l
 dsimp only at h4 h5 h6
 obtain ⟨g1,_⟩:=h6 _ (fF h4)
 cases l <;> cases o <;> first|(simp [eT] at hj;done)|skip
 ·rename_i x y
  simp only [eT] at hj
  split at hj
  ·cases hj
   by_cases hn:wd<c+x.length
   ·simp only [bp,hn,if_true] at e1;cases e1
   ·simp only [bp,hn,if_false] at e1
    cases e1
    by_cases hm:wd<c+x.length+y.length
    ·simp only [bp,hm,if_true] at e2;cases e2
    ·simp only [bp,hm,if_false] at e2
     cases e2
     have hk : ¬ wd<c+(x++y).length:=by simp;omega
     simp only [bp,lM h4,List.set_set,List.length_append]
     have t1:((rows.getD r []).take c).length=c:=by rw [List.length_take];omega
     have t2:((rows.getD r []).take c++x).length=c+x.length:=by rw [List.length_append,t1]
     have a1:((rows.getD r []).take c++x++(rows.getD r []).drop (c+x.length)).take (c+x.length)=(rows.getD r []).take c++x:=by
      rw [List.take_append_of_le_length (by omega),<- t2,List.take_length]
     have a2:((rows.getD r []).take c++x++(rows.getD r []).drop (c+x.length)).drop (c+x.length+y.length)=(rows.getD r []).drop (c+(x.length+y.length)):=by
      rw [<- t2,List.drop_append,List.drop_of_length_le (by omega),List.nil_append,t2,List.drop_drop]
      congr 1;omega
     have hk2 : ¬ wd<c+(x.length+y.length):=by omega
     rw [a1,a2,if_neg hk2]
     simp [Nat.add_assoc]
  ·cases hj
 ·rename_i r1 c1 r2 c2
  simp only [eT,Option.some.injEq] at hj
  subst hj
  by_cases hn:rows.length<=r1\/wd<c1
  ·simp only [bp,hn,if_true] at e1;cases e1
  ·simp only [bp,hn,if_false] at e1
   cases e1
   exact e2
 ·simp only [eT,Option.some.injEq] at hj
  subst hj
  simp only [bp,Option.some.injEq] at e1
  subst e1
  simp only [bp,lM h4,List.set_set,Option.some.injEq] at e2
  subst e2
  have t1:((rows.getD r []).take c).length=c:=by rw [List.length_take];omega
  have a1:((rows.getD r []).take c++List.replicate (wd - c) 32).take c=(rows.getD r []).take c:=by
   rw [List.take_append_of_le_length (by omega)]
   exact List.take_of_length_le (by omega)
  simp only [bp]
  rw [a1]
theorem zX {s s':St} {acc:List Od} {o:Od} (h:GS s) (hk:∀ p∈acc,okO p=true) (e:rn (some s) (acc++[o])=some s'):rn (some s) (dN acc o)=some s':=by
 rcases AC acc with rfl|⟨a,l,rfl⟩
 ·exact e
 ·cases hj:eT l o with
  | none=>rw [jv hj];exact e
  | some j=>
   rw [hX hj]
   rw [ir,ir] at e
   rw [ir]
   cases q:rn (some s) a with
   | none=>rw [q,fL,fL] at e;cases e
   | some s1=>
    rw [q] at e
    have h1:=zU a h (fun p hp=>hk p (List.mem_append_left _ hp)) q
    have e1:rn (some s1) [l]=bp s1 l:=rfl
    rw [e1] at e
    cases q2:bp s1 l with
    | none=>rw [q2,fL] at e;cases e
    | some s2=>
     rw [q2] at e
     have e2:bp s2 o=some s':=e
     exact Ax h1 hj q2 e2
theorem uG {s s':St} (h:GS s):∀ (os acc:List Od),(∀ p∈acc,okO p=true)->(∀ p∈os,okO p=true)->rn (some s) (acc++os)=some s'->rn (some s) (os.foldl dN acc)=some s'
 | [],acc,_,_,e=>by rw [List.append_nil] at e;exact e
 | o::os,acc,h1,h2,e=>by
  refine uG h os (dN acc o) (oZ h1 (h2 o (List.mem_cons_self ..))) (fun p hp=>h2 p (List.mem_cons_of_mem _ hp)) ?_
  rw [show acc++o::os=acc++[o]++os by simp,ir] at e
  rw [ir]
  cases q:rn (some s) (acc++[o]) with
  | none=>rw [q,fL] at e;cases e
  | some s1=>rw [zX h h1 q,<- q];exact e
theorem Am (h:GS s) (hg:GL s g):∃ r c,rn (some s) (shO (cO s g))=some (s.1,g,r,c):=by
 obtain ⟨r,c,e⟩:=xa h hg
 exact ⟨r,c,uG h (cO s g) [] (fun _ h=>by cases h) (fun o ho=>(iU h hg o ho).1) e⟩
end
end Q
namespace Q22
open L2 Q
open PySem (sizeLine Addr)
noncomputable def oH (aj:List D->R D):Ev->O:=(Ix (sh [(jA 3),(jA 4),(sh [(jA 5),(jA 6)])]) (rvz 2))
noncomputable def iW (aj:List D->R D):Ev->O:=(GC 7 8 (ac (aG 3 aj (ac (rvz 0) (ac (g2 ci (rvz 1) (ciz 10)) (ac (rvz 3) nlz)))) (ac (gSl (csz [120,121,122]) (fun _=>R.ok none) (iK (g2 ci (ciz 1) (aG 3 aj (ac (rvz 0) (ac (g2 ci (rvz 1) (ciz 11)) (ac (ciz 3) nlz))))))) nlz)))
noncomputable def iS (aj:List D->R D):Ev->O:=(fw 9 (aG 3 aj (ac (rvz 0) (ac (g2 ci (rvz 1) (ciz 12)) (ac (g2 ci (g2 yv (rvz 3) (gOf eX (ac (rvz 8) nlz))) (ciz 1)) nlz)))))
noncomputable def iQ (aj:List D->R D):Ev->O:=(fw 10 (g2 leD (g2 ci (rvz 6) (gOf eX (ac (rvz 8) nlz))) (rvz 3)))
noncomputable def iP (aj:List D->R D):Ev->O:=(fw 11 (aG 3 aj (ac (rvz 0) (ac (g2 ci (rvz 1) (ciz 13)) (ac (ciz 6) nlz)))))
noncomputable def du (aj:List D->R D):Ev->O:=(oIf (gB2 ltD (rvz 11) (ciz 2)) (ay (cj (g2 ci (gIf (az jx (rvz 10)) (bL (qI (ac (az mkT (ac (csz [115,97,121]) (ac (rvz 8) nlz))) nlz))) (bL (qI nlz))) (bL (qI (ac (az mkT (ac (csz [103,111]) (ac (rvz 5) (ac (rvz 7) nlz)))) (ac (az mkT (ac (csz [119,105,112,101]) nlz)) nlz)))))) oNx) oNx)
noncomputable def dC (aj:List D->R D):Ev->O:=(oIf (gB2 eqF (rvz 11) (ciz 2)) (ay (cj (bL (qI (ac (az mkT (ac (csz [119,105,112,101]) nlz)) (ac (az mkT (ac (csz [103,111]) (ac (rvz 5) (ac (rvz 9) nlz)))) (ac (az mkT (ac (csz [115,97,121]) (ac (rvz 8) nlz))) nlz)))))) oNx) oNx)
noncomputable def dA (aj:List D->R D):Ev->O:=(oIf (gB2 eqF (rvz 11) (ciz 3)) (ay (cj (g2 ci (gIf (az jx (rvz 10)) (bL (qI (ac (az mkT (ac (csz [115,97,121]) (ac (rvz 8) nlz))) nlz))) (bL (qI nlz))) (bL (qI (ac (az mkT (ac (csz [119,105,112,101]) nlz)) nlz))))) oNx) oNx)
noncomputable def dn (aj:List D->R D):Ev->O:=(oIf (gB2 eqF (rvz 11) (ciz 4)) (ay (cj (bL (qI (ac (az mkT (ac (csz [103,111]) (ac (rvz 5) (ac (rvz 9) nlz)))) (ac (az mkT (ac (csz [115,97,121]) (ac (rvz 8) nlz))) (ac (az mkT (ac (csz [119,105,112,101]) nlz)) nlz)))))) oNx) oNx)
noncomputable def cW (aj:List D->R D):Ev->O:=(cj (bL (qI (ac (az mkT (ac (csz [103,111]) (ac (g2 yv (gOf eX (ac (rvz 4) nlz)) (ciz 1)) (ac (rvz 9) nlz)))) (ac (az mkT (ac (csz [115,97,121]) (ac (rvz 8) nlz))) (ac (az mkT (ac (csz [103,111]) (ac (ciz 0) (ac (rvz 7) nlz)))) (ac (az mkT (ac (csz [119,105,112,101]) nlz)) nlz)))))))
noncomputable def eV (aj:List D->R D):Ev->O:=(ay (oH aj) (ay (iW aj) (ay (iS aj) (ay (iQ aj) (ay (iP aj) (ay (du aj) (ay (dC aj) (ay (dA aj) (ay (dn aj) (ay (cW aj) oNx))))))))))
noncomputable def fY (aj:List D->R D):Ev->O:=(GC 2 3 (ac (g2 ci (ciz 8) (aG 3 aj (ac (rvz 0) (ac (rvz 1) (ac (ciz 6) nlz))))) (ac (g2 ci (ciz 1) (aG 3 aj (ac (rvz 0) (ac (g2 ci (rvz 1) (ciz 1)) (ac (ciz 2) nlz))))) nlz)))
noncomputable def fX (aj:List D->R D):Ev->O:=(Gs 4 (qI nlz))
noncomputable def bS (aj:List D->R D):Ev->O:=(ay (fw 6 (aG 3 aj (ac (rvz 0) (ac (g2 ci (g2 ci (rvz 1) (ciz 2)) (rvz 5)) (ac (ciz 9) nlz))))) (ay (fw 7 (gSl (g2 ci (csz [107,108,109,110,111,112,113,114,115,116,117,118,119]) (csz [107,108,109,110,111,112,113,114,115,116,117,118,119])) (iK (rvz 6)) (iK (g2 ci (rvz 6) (rvz 2))))) (ay (GC 8 9 (ac (aG 3 aj (ac (rvz 0) (ac (g2 ci (g2 ci (rvz 1) (ciz 4)) (rvz 5)) (ac (rvz 2) nlz)))) (ac (aG 3 aj (ac (rvz 0) (ac (g2 ci (g2 ci (rvz 1) (ciz 6)) (rvz 5)) (ac (ciz 4) nlz)))) nlz))) (ay (GN 4 (g2 ci (gSl (rvz 7) (fun _=>R.ok none) (iK (rvz 8))) (gSl (g2 ci (g2 jB (csz [32]) (rvz 9)) (gSl (rvz 7) (iK (g2 ci (rvz 8) (rvz 9))) (fun _=>R.ok none))) (fun _=>R.ok none) (iK (g2 yv (rvz 2) (rvz 8)))))) oNx))))
noncomputable def fT (aj:List D->R D):Ev->O:=(zr (jA 5) (az eO (ac (rvz 3) nlz)) (bS aj))
noncomputable def fW (aj:List D->R D):Ev->O:=(cj (az mkT (ac (rvz 2) (ac (gOf rf (ac (rvz 4) nlz)) (ac (az mkT (ac (aG 3 aj (ac (rvz 0) (ac (g2 ci (rvz 1) (ciz 8)) (ac (rvz 3) nlz)))) (ac (aG 3 aj (ac (rvz 0) (ac (g2 ci (rvz 1) (ciz 9)) (ac (g2 ci (rvz 2) (ciz 1)) nlz)))) nlz))) nlz)))))
noncomputable def cR (aj:List D->R D):Ev->O:=(ay (fY aj) (ay (fX aj) (ay (fT aj) (Et 4 (ay (fW aj) oNx)))))
noncomputable def vw (aP bg:List D->R D) (bE bU:List D->R D) (bn cL:List D->R D):Ev->O:=(ay (fw 2 (aG 2 aP (ac (rvz 0) (ac (g2 jB (ciz 50) (rvz 1)) nlz)))) (ay (fw 3 (aG 3 bg (ac (rvz 0) (ac (g2 jB (ciz 50) (rvz 1)) (ac (rvz 2) nlz))))) (ay (fw 4 (aG 2 bE (ac (rvz 2) (ac (rvz 3) nlz)))) (ay (fw 5 (gOf xQ (ac (g2 ixD (rvz 4) (ciz 1)) nlz))) (ay (fw 6 (aG 2 bU (ac (rvz 2) (ac (rvz 5) nlz)))) (ay (oIf (sN (gB2 gtD (aG 2 bn (ac (rvz 2) (ac (rvz 5) nlz))) (aG 1 cL (ac (rvz 3) nlz))) (gB2 neF (aG 1 cL (ac (rvz 6) nlz)) (aG 2 bn (ac (rvz 2) (ac (rvz 5) nlz))))) (ay (cj (fun _=>R.ok (D.bl false))) oNx) oNx) (ay (oIf (gB2 neF (g2 ixD (aG 2 bE (ac (rvz 2) (ac (rvz 6) nlz))) (ciz 1)) (g2 ixD (rvz 4) (ciz 1))) (ay (cj (fun _=>R.ok (D.bl false))) oNx) oNx) oNx)))))))
noncomputable def BM (aP bg:List D->R D) (bE bU:List D->R D) (bn cL:List D->R D):Ev->O:=(zr (jA 1) (az eO (ac (ciz 8) nlz)) (vw aP bg bE bU bn cL))
noncomputable def Bq (aP bg:List D->R D) (bE bU:List D->R D) (bn cL:List D->R D):Ev->O:=(cj (fun _=>R.ok (D.bl true)))
noncomputable def tU (aP bg:List D->R D) (bE bU:List D->R D) (bn cL:List D->R D):Ev->O:=(ay (BM aP bg bE bU bn cL) (ay (Bq aP bg bE bU bn cL) oNx))
section
variable {fz:Bool} {ns:List Int} {a:Nat}
noncomputable def wY:List D->R D:=fun ds=>au (cR cH (ar 10 ds))
noncomputable def sg:List D->R D:=fun ds=>au (eV cH (ar 12 ds))
theorem pk {m:Nat} (h:0<m):∃ n:Nat,cH [.lst fz (ns.map .int),.int (k:Int),.int (m:Int)]=.ok (.int (n:Int))/\n<m:=by
 have r:=wN ns k (m:=(m:Int)) (by omega)
 exact ⟨(BZ ns k m).toNat,by rw [Int.toNat_of_nonneg r.1];exact xT (by omega),by omega⟩
noncomputable def alph:List Nat:=[107,108,109,110,111,112,113,114,115,116,117,118,119,107,108,109,110,111,112,113,114,115,116,117,118,119]
theorem wF:bt alph=true:=by decide
theorem xp (n:Nat):bt (List.replicate n 32)=true:=jS n 32 (by decide)
theorem Em {n:Nat} (h:n<=100):jB (.str [32]) (.int (n:Int))=some (.str (List.replicate n 32)):=xA h
theorem EE {x4:List D} {w:Nat} {x3 x6 x7 x8 x9:Option Sl} (w1:1<=w) (w2:w<=13) (hx:x4.length<=100):∃ (x:List Nat) (y6 y7 y8 y9:Option Sl),x.length=w/\bt x=true/\
  bS cH [vL fz ns,vI a,vI w,x3,some (.own x4),vI k,x6,x7,x8,x9]=.nx [vL fz ns,vI a,vI w,x3,some (.own (x4++[.str x])),vI k,y6,y7,y8,y9]:=by
 obtain ⟨t,et,ht⟩:=pk (fz:=fz) (ns:=ns) (k:=a+2+k) (m:=9) (by decide)
 obtain ⟨g,eg,hg⟩:=pk (fz:=fz) (ns:=ns) (k:=a+4+k) (m:=w) (by omega)
 obtain ⟨z,ez,hz⟩:=pk (fz:=fz) (ns:=ns) (k:=a+6+k) (m:=4) (by decide)
 have et':cH [.lst fz (ns.map .int),.int ((a:Int)+2+(k:Int)),.int 9]=.ok (.int (t:Int)):=et
 have eg':cH [.lst fz (ns.map .int),.int ((a:Int)+4+(k:Int)),.int (w:Int)]=.ok (.int (g:Int)):=eg
 have ez':cH [.lst fz (ns.map .int),.int ((a:Int)+6+(k:Int)),.int 4]=.ok (.int (z:Int)):=ez
 have s1:ci (.str [107,108,109,110,111,112,113,114,115,116,117,118,119]) (.str [107,108,109,110,111,112,113,114,115,116,117,118,119])=some (.str alph):=rfl
 have c1:jz alph (some (t:Int)) (some ((t:Int)+(w:Int)))=(alph.drop t).take w:=B7 alph t w
 have rl:((alph.drop t).take w).length=w:=by rw [List.length_take,List.length_drop,show alph.length=26 from rfl];omega
 have rp:bt ((alph.drop t).take w)=true:=gN wF fun c h=>List.mem_of_mem_drop (List.mem_of_mem_take h)
 generalize (alph.drop t).take w=row at *
 have c2:=wa row g
 have c3:jz row (some ((g:Int)+(z:Int))) none=row.drop (g+z):=ue row (g+z)
 have m1:=Em (n:=z) (by omega)
 have l1:ci (.str (List.replicate z 32)) (.str (row.drop (g+z)))=some (.str (List.replicate z 32++row.drop (g+z))):=xm (by have:=bJ;simp;omega)
 have c4:jz (List.replicate z 32++row.drop (g+z)) none (some ((w:Int) - (g:Int)))=(List.replicate z 32++row.drop (g+z)).take (w - g):=by rw [show (w:Int) - (g:Int)=((w - g:Nat):Int) by omega];exact wa _ _
 have l2:ci (.str (row.take g)) (.str ((List.replicate z 32++row.drop (g+z)).take (w - g)))=some (.str (row.take g++(List.replicate z 32++row.drop (g+z)).take (w - g))):=xm (by have:=bJ;simp;omega)
 refine ⟨row.take g++(List.replicate z 32++row.drop (g+z)).take (w - g),vI t,vD (.str row),vI g,vI z,by simp;omega,dH (lf _ rp) (lf _ (dH (xp z) (gN rp fun c h=>List.mem_of_mem_drop h))),?_⟩
 have o4:∀ (a b c d:Option Sl) (e:List D) (ρ:Ev),ownAt (a::b::c::d::some (.own e)::ρ) 4=.ok e:=fun _ _ _ _ _ _=>rfl
 have zz:x4.length<sizeLine:=Nat.lt_of_le_of_lt hx (by decide)
 unfold bS
 clear rl rp ht hg hz w1 w2 hx et eg ez
 generalize row.take g++(List.replicate z 32++row.drop (g+z)).take (w - g)=X at *
 generalize alph=AL at *
 walk_at "run"
theorem BA {w:Nat} {x3:Option Sl} (w1:1<=w) (w2:w<=13):∀ (ks:List Nat) (xs:List (List Nat)) (x5 x6 x7 x8 x9:Option Sl),xs.length+ks.length<=100->(∀ x∈xs,x.length=w/\bt x=true)->∃ (ys:List (List Nat)) (y5 y6 y7 y8 y9:Option Sl),ys.length=xs.length+ks.length/\(∀ x∈ys,x.length=w/\bt x=true)/\
  dw (jA 5) (bS cH) (ks.map fun (i:Nat)=>D.int (i:Int)) [vL fz ns,vI a,vI w,x3,some (.own (xs.map .str)),x5,x6,x7,x8,x9]=.nx [vL fz ns,vI a,vI w,x3,some (.own (ys.map .str)),y5,y6,y7,y8,y9]
 | [],xs,x5,x6,x7,x8,x9,_,h=>⟨xs,x5,x6,x7,x8,x9,rfl,h,rfl⟩
 | k::ks,xs,x5,x6,x7,x8,x9,hl,h=>by
  rw [List.length_cons] at hl
  obtain ⟨x,y6,y7,y8,y9,l,p,e⟩:=EE (fz:=fz) (ns:=ns) (a:=a) (x4:=xs.map .str) (w:=w) (k:=k) (x3:=x3) (x6:=x6) (x7:=x7) (x8:=x8) (x9:=x9) w1 w2 (by rw [List.length_map];omega)
  obtain ⟨ys,z5,z6,z7,z8,z9,l2,h2,e2⟩:=BA w1 w2 ks (xs++[x]) (vI k) y6 y7 y8 y9 (by rw [List.length_append,List.length_cons,List.length_nil];omega) (fun y hy=>by
   rcases List.mem_append.1 hy with hy|hy
   ·exact h y hy
   ·rw [List.mem_singleton.1 hy];exact ⟨l,p⟩)
  refine ⟨ys,z5,z6,z7,z8,z9,by rw [l2,List.length_append,List.length_cons,List.length_nil,List.length_cons];omega,h2,?_⟩
  rw [List.map_append] at e2
  exact (gT rfl e).trans e2
theorem Jb:∃ s:Q.St,GS s/\8<=s.1/\s.1<=13/\s.2.1.length<=2/\wY [.lst fz (ns.map .int),.int (a:Int)]=.ok (sD s):=by
 obtain ⟨w,ew,hw⟩:=pk (fz:=fz) (ns:=ns) (k:=a) (m:=6) (by decide)
 obtain ⟨m,em,hm⟩:=pk (fz:=fz) (ns:=ns) (k:=a+1) (m:=2) (by decide)
 obtain ⟨r,er,hr⟩:=pk (fz:=fz) (ns:=ns) (k:=a+8) (m:=1+m) (by omega)
 obtain ⟨c,ec,hc⟩:=pk (fz:=fz) (ns:=ns) (k:=a+9) (m:=8+w+1) (by omega)
 obtain ⟨ys,y5,y6,y7,y8,y9,l,h,e⟩:=BA (fz:=fz) (ns:=ns) (a:=a) (w:=8+w) (x3:=vI (1+m)) (by omega) (by omega) (List.range (1+m)) [] none none none none none (by simp;omega) (fun _ h=>by cases h)
 rw [List.length_nil,List.length_range] at l
 refine ⟨(8+w,ys,r,c),⟨by dsimp only;omega,by dsimp only;omega,by dsimp only;omega,by dsimp only;omega,by dsimp only;omega,h⟩,by dsimp only;omega,by dsimp only;omega,by dsimp only;omega,?_⟩
 have ew':cH [.lst fz (ns.map .int),.int (a:Int),.int 6]=.ok (.int (w:Int)):=ew
 have em':cH [.lst fz (ns.map .int),.int ((a:Int)+1),.int 2]=.ok (.int (m:Int)):=em
 have er':cH [.lst fz (ns.map .int),.int ((a:Int)+8),.int ((1+m:Nat):Int)]=.ok (.int (r:Int)):=er
 have ec':cH [.lst fz (ns.map .int),.int ((a:Int)+9),.int (((8+w:Nat):Int)+1)]=.ok (.int (c:Int)):=ec
 have n1:(8:Int)+(w:Int)=((8+w:Nat):Int):=by omega
 have n2:(1:Int)+(m:Int)=((1+m:Nat):Int):=by omega
 have r1:eO [.int ((1+m:Nat):Int)]=.ok ((List.range (1+m)).map fun (i:Nat)=>D.int (i:Int)):=vp (by omega)
 have z:(0<=sizeLine)=True:=eq_true (Nat.zero_le _)
 have t1:∀ xs,rf [.lst false xs]=some (.tup xs):=fun _=>rfl
 have k2:mkT [.int (r:Int),.int (c:Int)]=.ok (.tup [.int (r:Int),.int (c:Int)]):=rfl
 have k3:mkT [.int ((8+w:Nat):Int),.tup (ys.map .str),.tup [.int (r:Int),.int (c:Int)]]=.ok (sD (8+w,ys,r,c)):=rfl
 have e':dw (jA 5) (bS cH) ((List.range (1+m)).map fun (i:Nat)=>D.int (i:Int)) [vL fz ns,vI a,vI (8+w),vI (1+m),some (.own []),none,none,none,none,none]=.nx [vL fz ns,vI a,vI (8+w),vI (1+m),some (.own (ys.map .str)),y5,y6,y7,y8,y9]:=e
 show au (ay _ _ [vL fz ns,vI a,none,none,none,none,none,none,none,none])=_
 unfold fY fX fT fW
 clear ew em er ec hw hm hr hc l h e
 generalize 8+w=W at *
 generalize 1+m=M at *
 walk_at "run"
end
section
variable {wd r c:Nat} {rows:List (List Nat)} {os:List Od}
theorem fO {s:Q.St}:∃ s',rn (some s) []=some s':=⟨s,rfl⟩
theorem ju {x:List Nat} (h:c+x.length<=wd) (H:∀ rows':List (List Nat),rows'.length=rows.length->∃ s',rn (some (wd,rows',r,c+x.length)) os=some s'):∃ s',rn (some (wd,rows,r,c)) (.say x::os)=some s':=by
 rw [gX,show ((some (wd,rows,r,c)).bind fun s=>bp s (.say x))=some (wd,rows.set r ((rows.getD r []).take c++x++(rows.getD r []).drop (c+x.length)),r,c+x.length) from if_neg (by omega)]
 exact H _ (List.length_set ..)
theorem kM {n:Nat} (h1:n<rows.length) (h2:k<=wd) (H:∃ s',rn (some (wd,rows,n,k)) os=some s'):∃ s',rn (some (wd,rows,r,c)) (.go n k::os)=some s':=by
 rw [gX,show ((some (wd,rows,r,c)).bind fun s=>bp s (.go n k))=some (wd,rows,n,k) from if_neg (by omega)]
 exact H
theorem de (H:∀ rows':List (List Nat),rows'.length=rows.length->∃ s',rn (some (wd,rows',r,c)) os=some s'):∃ s',rn (some (wd,rows,r,c)) (.wipe::os)=some s':=H _ (List.length_set ..)
theorem E4 {x:List Nat} (h1:bt x=true) (h2:1<=x.length) (h3:x.length<=40):okO (.say x)=true:=by
 simp only [okO,Bool.and_eq_true,decide_eq_true_eq];exact ⟨h1,h2,h3⟩
theorem Ig {n:Nat} (h1:n<=11) (h2:k<=40):okO (.go n k)=true:=by
 simp only [okO,Bool.and_eq_true,decide_eq_true_eq];exact ⟨h1,h2⟩
end
theorem Ho {ns:List Int} {a:Nat} {s:Q.St} (h:GS s) (w1:8<=s.1) (w2:s.1<=13) (m2:s.2.1.length<=2):∃ (os:List Od),(∀ o∈os,okO o=true)/\os.length<=4/\(∃ s',rn (some s) os=some s')/\sg [.lst fz (ns.map .int),.int (a:Int),sD s]=.ok (.lst false (os.map oD)):=by
 obtain ⟨wd,rows,r,c⟩:=s
 have hr:r<rows.length:=h.r
 have hc:c<=wd:=h.c
 dsimp only at w1 w2 m2
 obtain ⟨f,ef,hf⟩:=pk (fz:=fz) (ns:=ns) (k:=a+10) (m:=wd) (by omega)
 obtain ⟨n,en,hn⟩:=pk (fz:=fz) (ns:=ns) (k:=a+11) (m:=3) (by decide)
 have wl:(([120,121,122]:List Nat).take (1+n)).length=1+n:=by rw [List.length_take];show min (1+n) 3=_;omega
 have wp:bt (([120,121,122]:List Nat).take (1+n))=true:=lf _ (by decide)
 have c1:jz ([120,121,122]:List Nat) none (some ((1:Int)+(n:Int)))=([120,121,122]:List Nat).take (1+n):=wa _ (1+n)
 generalize ([120,121,122]:List Nat).take (1+n)=x at *
 obtain ⟨g,eg,hg⟩:=pk (fz:=fz) (ns:=ns) (k:=a+12) (m:=wd - x.length+1) (by omega)
 obtain ⟨v,ev,hv⟩:=pk (fz:=fz) (ns:=ns) (k:=a+13) (m:=6) (by decide)
 have ef':cH [.lst fz (ns.map .int),.int ((a:Int)+10),.int (wd:Int)]=.ok (.int (f:Int)):=ef
 have en':cH [.lst fz (ns.map .int),.int ((a:Int)+11),.int 3]=.ok (.int (n:Int)):=en
 have eg':cH [.lst fz (ns.map .int),.int ((a:Int)+12),.int ((wd:Int) - (x.length:Int)+1)]=.ok (.int (g:Int)):=by
  rw [show (wd:Int) - (x.length:Int)+1=((wd - x.length+1:Nat):Int) by omega];exact eg
 have ev':cH [.lst fz (ns.map .int),.int ((a:Int)+13),.int 6]=.ok (.int (v:Int)):=ev
 have st:sh [jA 3,jA 4,sh [jA 5,jA 6]] (sD (wd,rows,r,c)) [vL fz ns,vI a,vD (sD (wd,rows,r,c)),none,none,none,none,none,none,none,none,none]=.ok [vL fz ns,vI a,vD (sD (wd,rows,r,c)),vI wd,vD (.tup (rows.map .str)),vI r,vI c,none,none,none,none,none]:=rfl
 have os1:=E4 wp (by omega) (by omega)
 have og:∀ i j,i<rows.length->j<=wd->okO (.go i j)=true:=fun i j h1 h2=>Ig (by omega) (by omega)
 have kw:mkT [.str [119,105,112,101]]=.ok (oD .wipe):=rfl
 have ks:mkT [.str [115,97,121],.str x]=.ok (oD (.say x)):=rfl
 have kg:∀ i j:Nat,mkT [.str [103,111],.int (i:Int),.int (j:Int)]=.ok (oD (.go i j)):=fun _ _=>rfl
 have z0:(0<=sizeLine)=True:=eq_true (Nat.zero_le _)
 have lz:∀ k:Nat,k<=10->(k<=sizeLine)=True:=fun k hk=>eq_true (Nat.le_trans hk (by decide))
 have z1:=lz 1 (by decide)
 have z2:=lz 2 (by decide)
 have z3:=lz 3 (by decide)
 have z4:=lz 4 (by decide)
 have la:∀ p q:List D,p.length+q.length<=10->ci (.lst false p) (.lst false q)=some (.lst false (p++q)):=fun p q h=>EL (Nat.le_trans h (by decide))
 have ln:eX [.tup (rows.map .str)]=some (.int (rows.length:Int)):=by rw [C6,List.length_map]
 have common:∀ (V:Int),(v:Int)=V->sg [.lst fz (ns.map .int),.int (a:Int),sD (wd,rows,r,c)]=au (ay (du cH) (ay (dC cH) (ay (dA cH) (ay (dn cH) (ay (cW cH) oNx)))) [vL fz ns,vI a,vD (sD (wd,rows,r,c)),vI wd,vD (.tup (rows.map .str)),vI r,vI c,vI f,vD (.str x),vI g,vD (.bl (decide ((c:Int)+(x.length:Int)<=(wd:Int)))),vD (.int V)]):=fun V hV=>by
  rw [hV] at ev'
  show au (ay _ _ [vL fz ns,vI a,vD (sD (wd,rows,r,c)),none,none,none,none,none,none,none,none,none])=_
  refine (congrArg au (gz (ρ1:=[vL fz ns,vI a,vD (sD (wd,rows,r,c)),vI wd,vD (.tup (rows.map .str)),vI r,vI c,none,none,none,none,none]) rfl)).trans ?_
  unfold iW iS iQ iP
  clear st os1 og kw ks kg z0 lz z1 z2 z3 z4 la ln wl wp hf hn hg hv h hr hc w1 w2 m2 ef en eg ev
  generalize sD (wd,rows,r,c)=S at *
  generalize D.tup (rows.map .str)=RR at *
  refine (congrArg au (gz (ρ1:=[vL fz ns,vI a,vD S,vI wd,vD RR,vI r,vI c,vI f,vD (.str x),none,none,none]) (by walk_at "run"))).trans ?_
  refine (congrArg au (gz (ρ1:=[vL fz ns,vI a,vD S,vI wd,vD RR,vI r,vI c,vI f,vD (.str x),vI g,none,none]) (by walk_at "run"))).trans ?_
  refine (congrArg au (gz (ρ1:=[vL fz ns,vI a,vD S,vI wd,vD RR,vI r,vI c,vI f,vD (.str x),vI g,vD (.bl (decide ((c:Int)+(x.length:Int)<=(wd:Int)))),none]) (by walk_at "run"))).trans ?_
  exact (congrArg au (gz (by walk_at "run")))
 have fin:∀ (V:Int),(v:Int)=V->∀ os:List Od,(∀ o∈os,okO o=true)->os.length<=4->(∃ s',rn (some (wd,rows,r,c)) os=some s')->au (ay (du cH) (ay (dC cH) (ay (dA cH) (ay (dn cH) (ay (cW cH) oNx)))) [vL fz ns,vI a,vD (sD (wd,rows,r,c)),vI wd,vD (.tup (rows.map .str)),vI r,vI c,vI f,vD (.str x),vI g,vD (.bl (decide ((c:Int)+(x.length:Int)<=(wd:Int)))),vD (.int V)])=.ok (.lst false (os.map oD))->
   ∃ (os:List Od),(∀ o∈os,okO o=true)/\os.length<=4/\(∃ s',rn (some (wd,rows,r,c)) os=some s')/\sg [.lst fz (ns.map .int),.int (a:Int),sD (wd,rows,r,c)]=.ok (.lst false (os.map oD)):=fun V hV os h1 h2 h3 h4=>⟨os,h1,h2,h3,by rw [common V hV,h4]⟩
 clear common
 unfold du dC dA dn cW at fin
 have tb:∀ b:Bool,jx (.bl b)=.ok b:=fun _=>rfl
 have rl:(rows.length:Int) - 1=((rows.length - 1:Nat):Int):=by omega
 have kgr:=kg r f
 have kgg:=kg r g
 have kgl:=kg (rows.length - 1) g
 have kg0:mkT [.str [103,111],.int 0,.int (f:Int)]=.ok (oD (.go 0 f)):=kg 0 f
 have la1:=la [oD (.say x)] [oD (.go r f),oD .wipe] (by simp)
 have la2:=la [] [oD (.go r f),oD .wipe] (by simp)
 have la3:=la [oD (.say x)] [oD .wipe] (by simp)
 have la4:=la [] [oD .wipe] (by simp)
 have okr:=og r f hr (by omega)
 have okg:=og r g hr (by omega)
 have okl:=og (rows.length - 1) g (by omega) (by omega)
 have ok0:=og 0 f (by omega) (by omega)
 have vc:v=0\/v=1\/v=2\/v=3\/v=4\/v=5:=by omega
 have q0:eqF (.int 2) (.int 2)=some (.bl true):=rfl
 by_cases fits:c+x.length<=wd
 ·have d1:decide ((c:Int)+(x.length:Int)<=(wd:Int))=true:=by rw [decide_eq_true_eq];omega
  rw [d1] at fin
  rcases vc with hv|hv|hv|hv|hv|hv
  ·refine fin 0 (by rw [hv];rfl) [.say x,.go r f,.wipe] (by simp only [List.mem_cons,List.not_mem_nil,or_false,forall_eq_or_imp,forall_eq];exact ⟨os1,okr,rfl⟩) (by show _+1<=4;simp) (ju fits fun R hR=>kM (by omega) (by omega) (de fun _ _=>fO)) ?_
   clear kg fin ef en eg ev ef' en' eg' ev' st os1 og lz la wl wp hf hn hg h hr hc w1 w2 m2 okr okg okl ok0 fits c1
   simp only [List.map_cons,List.map_nil]
   generalize oD .wipe=ow at *
   generalize oD (.say x)=os at *
   generalize oD (.go r f)=og1 at *
   generalize oD (.go r g)=og2 at *
   generalize oD (.go (rows.length - 1) g)=og3 at *
   generalize oD (.go 0 f)=og4 at *
   generalize sD (wd,rows,r,c)=S at *
   walk_at "run"
  ·refine fin 1 (by rw [hv];rfl) [.say x,.go r f,.wipe] (by simp only [List.mem_cons,List.not_mem_nil,or_false,forall_eq_or_imp,forall_eq];exact ⟨os1,okr,rfl⟩) (by show _+1<=4;simp) (ju fits fun R hR=>kM (by omega) (by omega) (de fun _ _=>fO)) ?_
   clear kg fin ef en eg ev ef' en' eg' ev' st os1 og lz la wl wp hf hn hg h hr hc w1 w2 m2 okr okg okl ok0 fits c1
   simp only [List.map_cons,List.map_nil]
   generalize oD .wipe=ow at *
   generalize oD (.say x)=os at *
   generalize oD (.go r f)=og1 at *
   generalize oD (.go r g)=og2 at *
   generalize oD (.go (rows.length - 1) g)=og3 at *
   generalize oD (.go 0 f)=og4 at *
   generalize sD (wd,rows,r,c)=S at *
   walk_at "run"
  ·refine fin 2 (by rw [hv];rfl) [.wipe,.go r g,.say x] (by simp only [List.mem_cons,List.not_mem_nil,or_false,forall_eq_or_imp,forall_eq];exact ⟨rfl,okg,os1⟩) (by show _+1<=4;simp) (de fun R hR=>kM (by omega) (by omega) (ju (by omega) fun _ _=>fO)) ?_
   clear kg fin ef en eg ev ef' en' eg' ev' st os1 og lz la wl wp hf hn hg h hr hc w1 w2 m2 okr okg okl ok0 fits c1
   simp only [List.map_cons,List.map_nil]
   generalize oD .wipe=ow at *
   generalize oD (.say x)=os at *
   generalize oD (.go r f)=og1 at *
   generalize oD (.go r g)=og2 at *
   generalize oD (.go (rows.length - 1) g)=og3 at *
   generalize oD (.go 0 f)=og4 at *
   generalize sD (wd,rows,r,c)=S at *
   walk_at "run"
  ·refine fin 3 (by rw [hv];rfl) [.say x,.wipe] (by simp only [List.mem_cons,List.not_mem_nil,or_false,forall_eq_or_imp,forall_eq];exact ⟨os1,rfl⟩) (by show _+1<=4;simp) (ju fits fun R hR=>de fun _ _=>fO) ?_
   clear kg fin ef en eg ev ef' en' eg' ev' st os1 og lz la wl wp hf hn hg h hr hc w1 w2 m2 okr okg okl ok0 fits c1
   simp only [List.map_cons,List.map_nil]
   generalize oD .wipe=ow at *
   generalize oD (.say x)=os at *
   generalize oD (.go r f)=og1 at *
   generalize oD (.go r g)=og2 at *
   generalize oD (.go (rows.length - 1) g)=og3 at *
   generalize oD (.go 0 f)=og4 at *
   generalize sD (wd,rows,r,c)=S at *
   walk_at "run"
  ·refine fin 4 (by rw [hv];rfl) [.go r g,.say x,.wipe] (by simp only [List.mem_cons,List.not_mem_nil,or_false,forall_eq_or_imp,forall_eq];exact ⟨okg,os1,rfl⟩) (by show _+1<=4;simp) (kM hr (by omega) (ju (by omega) fun _ _=>de fun _ _=>fO)) ?_
   clear kg fin ef en eg ev ef' en' eg' ev' st os1 og lz la wl wp hf hn hg h hr hc w1 w2 m2 okr okg okl ok0 fits c1
   simp only [List.map_cons,List.map_nil]
   generalize oD .wipe=ow at *
   generalize oD (.say x)=os at *
   generalize oD (.go r f)=og1 at *
   generalize oD (.go r g)=og2 at *
   generalize oD (.go (rows.length - 1) g)=og3 at *
   generalize oD (.go 0 f)=og4 at *
   generalize sD (wd,rows,r,c)=S at *
   walk_at "run"
  ·refine fin 5 (by rw [hv];rfl) [.go (rows.length - 1) g,.say x,.go 0 f,.wipe] (by simp only [List.mem_cons,List.not_mem_nil,or_false,forall_eq_or_imp,forall_eq];exact ⟨okl,os1,ok0,rfl⟩) (by show _+1<=4;simp) (kM (by omega) (by omega) (ju (by omega) fun _ _=>kM (by omega) (by omega) (de fun _ _=>fO))) ?_
   clear kg fin ef en eg ev ef' en' eg' ev' st os1 og lz la wl wp hf hn hg h hr hc w1 w2 m2 okr okg okl ok0 fits c1
   simp only [List.map_cons,List.map_nil]
   generalize oD .wipe=ow at *
   generalize oD (.say x)=os at *
   generalize oD (.go r f)=og1 at *
   generalize oD (.go r g)=og2 at *
   generalize oD (.go (rows.length - 1) g)=og3 at *
   generalize oD (.go 0 f)=og4 at *
   generalize sD (wd,rows,r,c)=S at *
   walk_at "run"
 ·have d1:decide ((c:Int)+(x.length:Int)<=(wd:Int))=false:=by rw [decide_eq_false_iff_not];omega
  rw [d1] at fin
  rcases vc with hv|hv|hv|hv|hv|hv
  ·refine fin 0 (by rw [hv];rfl) [.go r f,.wipe] (by simp only [List.mem_cons,List.not_mem_nil,or_false,forall_eq_or_imp,forall_eq];exact ⟨okr,rfl⟩) (by show _+1<=4;simp) (kM hr (by omega) (de fun _ _=>fO)) ?_
   clear kg fin ef en eg ev ef' en' eg' ev' st os1 og lz la wl wp hf hn hg h hr hc w1 w2 m2 okr okg okl ok0 fits c1
   simp only [List.map_cons,List.map_nil]
   generalize oD .wipe=ow at *
   generalize oD (.say x)=os at *
   generalize oD (.go r f)=og1 at *
   generalize oD (.go r g)=og2 at *
   generalize oD (.go (rows.length - 1) g)=og3 at *
   generalize oD (.go 0 f)=og4 at *
   generalize sD (wd,rows,r,c)=S at *
   walk_at "run"
  ·refine fin 1 (by rw [hv];rfl) [.go r f,.wipe] (by simp only [List.mem_cons,List.not_mem_nil,or_false,forall_eq_or_imp,forall_eq];exact ⟨okr,rfl⟩) (by show _+1<=4;simp) (kM hr (by omega) (de fun _ _=>fO)) ?_
   clear kg fin ef en eg ev ef' en' eg' ev' st os1 og lz la wl wp hf hn hg h hr hc w1 w2 m2 okr okg okl ok0 fits c1
   simp only [List.map_cons,List.map_nil]
   generalize oD .wipe=ow at *
   generalize oD (.say x)=os at *
   generalize oD (.go r f)=og1 at *
   generalize oD (.go r g)=og2 at *
   generalize oD (.go (rows.length - 1) g)=og3 at *
   generalize oD (.go 0 f)=og4 at *
   generalize sD (wd,rows,r,c)=S at *
   walk_at "run"
  ·refine fin 2 (by rw [hv];rfl) [.wipe,.go r g,.say x] (by simp only [List.mem_cons,List.not_mem_nil,or_false,forall_eq_or_imp,forall_eq];exact ⟨rfl,okg,os1⟩) (by show _+1<=4;simp) (de fun R hR=>kM (by omega) (by omega) (ju (by omega) fun _ _=>fO)) ?_
   clear kg fin ef en eg ev ef' en' eg' ev' st os1 og lz la wl wp hf hn hg h hr hc w1 w2 m2 okr okg okl ok0 fits c1
   simp only [List.map_cons,List.map_nil]
   generalize oD .wipe=ow at *
   generalize oD (.say x)=os at *
   generalize oD (.go r f)=og1 at *
   generalize oD (.go r g)=og2 at *
   generalize oD (.go (rows.length - 1) g)=og3 at *
   generalize oD (.go 0 f)=og4 at *
   generalize sD (wd,rows,r,c)=S at *
   walk_at "run"
  ·refine fin 3 (by rw [hv];rfl) [.wipe] (by simp only [List.mem_cons,List.not_mem_nil,or_false,forall_eq_or_imp,forall_eq];exact rfl) (by show _+1<=4;simp) (de fun _ _=>fO) ?_
   clear kg fin ef en eg ev ef' en' eg' ev' st os1 og lz la wl wp hf hn hg h hr hc w1 w2 m2 okr okg okl ok0 fits c1
   simp only [List.map_cons,List.map_nil]
   generalize oD .wipe=ow at *
   generalize oD (.say x)=os at *
   generalize oD (.go r f)=og1 at *
   generalize oD (.go r g)=og2 at *
   generalize oD (.go (rows.length - 1) g)=og3 at *
   generalize oD (.go 0 f)=og4 at *
   generalize sD (wd,rows,r,c)=S at *
   walk_at "run"
  ·refine fin 4 (by rw [hv];rfl) [.go r g,.say x,.wipe] (by simp only [List.mem_cons,List.not_mem_nil,or_false,forall_eq_or_imp,forall_eq];exact ⟨okg,os1,rfl⟩) (by show _+1<=4;simp) (kM hr (by omega) (ju (by omega) fun _ _=>de fun _ _=>fO)) ?_
   clear kg fin ef en eg ev ef' en' eg' ev' st os1 og lz la wl wp hf hn hg h hr hc w1 w2 m2 okr okg okl ok0 fits c1
   simp only [List.map_cons,List.map_nil]
   generalize oD .wipe=ow at *
   generalize oD (.say x)=os at *
   generalize oD (.go r f)=og1 at *
   generalize oD (.go r g)=og2 at *
   generalize oD (.go (rows.length - 1) g)=og3 at *
   generalize oD (.go 0 f)=og4 at *
   generalize sD (wd,rows,r,c)=S at *
   walk_at "run"
  ·refine fin 5 (by rw [hv];rfl) [.go (rows.length - 1) g,.say x,.go 0 f,.wipe] (by simp only [List.mem_cons,List.not_mem_nil,or_false,forall_eq_or_imp,forall_eq];exact ⟨okl,os1,ok0,rfl⟩) (by show _+1<=4;simp) (kM (by omega) (by omega) (ju (by omega) fun _ _=>kM (by omega) (by omega) (de fun _ _=>fO))) ?_
   clear kg fin ef en eg ev ef' en' eg' ev' st os1 og lz la wl wp hf hn hg h hr hc w1 w2 m2 okr okg okl ok0 fits c1
   simp only [List.map_cons,List.map_nil]
   generalize oD .wipe=ow at *
   generalize oD (.say x)=os at *
   generalize oD (.go r f)=og1 at *
   generalize oD (.go r g)=og2 at *
   generalize oD (.go (rows.length - 1) g)=og3 at *
   generalize oD (.go 0 f)=og4 at *
   generalize sD (wd,rows,r,c)=S at *
   walk_at "run"
theorem xN {n wd:Nat} {xs:List (List Nat)} (hn:xs.length=n) (hl:∀ x∈xs,x.length=wd):mw n wd xs=xs:=by
 unfold mw
 rw [hn,Nat.sub_self,List.replicate_zero,List.append_nil]
 conv=>rhs;rw [<- List.map_id xs]
 refine List.map_congr_left fun x hx=>?_
 unfold zq
 rw [hl x hx,Nat.sub_self,List.replicate_zero,List.append_nil];rfl
theorem AB {n wd:Nat} {xs:List (List Nat)} (hn:xs.length=n) (hl:∀ x∈xs,x.length=wd/\bt x=true):bP n wd xs=true:=by
 unfold bP
 rw [hn,decide_eq_true (Nat.le_refl _),Bool.true_and,List.all_eq_true]
 intro x hx
 have:=hl x hx
 unfold txt
 rw [this.2,this.1,decide_eq_true (Nat.le_refl _)];rfl
theorem Es {Cs Co Cr:Addr} {ns:List Int} {x2 x3 x4 x5 x6:Option Sl}:∃ y2 y3 y4 y5 y6,vw wY sg (adG Cs Co Cr) (leF Co) (nZ Co) (coG Co) [vL fz ns,vI k,x2,x3,x4,x5,x6]=.nx [vL fz ns,vI k,y2,y3,y4,y5,y6]:=by
 obtain ⟨s,h,w1,w2,m2,e1⟩:=Jb (fz:=fz) (ns:=ns) (a:=50 * k)
 obtain ⟨os,ho,hl,⟨s',run⟩,e2⟩:=Ho (fz:=fz) (ns:=ns) (a:=50 * k) h w1 w2 m2
 have h':=zU os h ho run
 obtain ⟨_,v,_⟩:=Iv.run 0 0 os (iv0 s) h ho run
 have rl:s'.2.1.length=s.2.1.length:=v.m
 have rw':∀ x∈s'.2.1,x.length=s.1/\bt x=true:=fun x hx=>by have:=h'.l x hx;rw [v.wd] at this;exact this
 have fit:=AB rl rw'
 have gf:=xN rl fun x hx=>(rw' x hx).1
 have hg:=tZ fit
 have hb:4 * s.1 * (s.2.1.length+1)<=900:=Nat.le_trans (Nat.mul_le_mul (Nat.mul_le_mul_left 4 w2) (show s.2.1.length+1<=3 by omega)) (by decide)
 have a1:=JL (Cs:=Cs) (Co:=Co) (Cr:=Cr) (f:=false) h ho run
 have a2:=Fz (C:=Co) h fit hb false
 have a3:=HS (C:=Co) h fit hb false
 have a4:=Jc (C:=Co) (f:=false) ho (by omega)
 have ln:=lO h hg
 have sl:=(jp (cO s (mw s.2.1.length s.1 s'.2.1)) []).1
 rw [List.length_nil,Nat.zero_add] at sl
 rw [gf] at a2 a3 hg sl ln
 have so:=FK fun o ho=>(iU h hg o ho).1
 have a5:=Jc (C:=Co) (f:=false) so (by unfold shO;omega)
 obtain ⟨r,c,rt⟩:=Am h hg
 have a6:=JL (Cs:=Cs) (Co:=Co) (Cr:=Cr) (f:=false) h so rt
 have lm:=yd h hg ho run rfl
 have q1:((iw s s'.2.1:Int) > ((os.map bA).sum:Nat))=False:=eq_false (by omega)
 have q1':decide ((((os.map bA).sum:Nat):Int)<(iw s s'.2.1:Int))=false:=by rw [decide_eq_false_iff_not];omega
 have q2:(((shO (cO s s'.2.1)).map bA).sum:Nat)=iw s s'.2.1:=rfl
 rw [q2] at a5
 have q3:neF (.int (iw s s'.2.1:Int)) (.int (iw s s'.2.1:Int))=some (.bl false):=zd rfl
 have q4:neF (.tup (s'.2.1.map .str)) (.tup (s'.2.1.map .str))=some (.bl false):=by
  refine zd ?_
  show List.all _ (cl 9)=true
  rw [List.all_eq_true]
  intro x hx
  obtain ⟨t,_,rfl⟩:=List.mem_map.1 hx
  rfl
 have i1:ixD (sD s') (.int 1)=some (.tup (s'.2.1.map .str)):=rfl
 have i2:ixD (sD (s.1,s'.2.1,r,c)) (.int 1)=some (.tup (s'.2.1.map .str)):=rfl
 have l1:xQ [.tup (s'.2.1.map .str)]=some (.lst false (s'.2.1.map .str)):=rfl
 have m1:jB (.int 50) (.int (k:Int))=some (.int ((50 * k:Nat):Int)):=by rw [Gq (by decide)];congr 2
 refine ⟨vD (sD s),vD (.lst false (os.map oD)),vD (sD s'),vD (.lst false (s'.2.1.map .str)),vD (.lst false ((shO (cO s s'.2.1)).map oD)),?_⟩
 unfold vw
 clear h w1 w2 m2 ho hl run h' v rl rw' fit gf hg hb ln sl so rt lm q2
 generalize iw s s'.2.1=LC at *
 generalize (shO (cO s s'.2.1)).map oD=TO at *
 generalize (os.map bA).sum=OC at *
 generalize os.map oD=OO at *
 generalize sD (s.1,s'.2.1,r,c)=S3 at *
 generalize s'.2.1.map D.str=RR at *
 generalize sD s'=S2 at *
 generalize sD s=S1 at *
 generalize 50 * k=K at *
 walk_at "run"
theorem xI {Cs Co Cr:Addr} {fz:Bool} {ns:List Int}:∀ (ks:List Nat) (x1 x2 x3 x4 x5 x6:Option Sl),∃ y1 y2 y3 y4 y5 y6,dw (jA 1) (vw wY sg (adG Cs Co Cr) (leF Co) (nZ Co) (coG Co)) (ks.map fun (i:Nat)=>D.int (i:Int)) [vL fz ns,x1,x2,x3,x4,x5,x6]=.nx [vL fz ns,y1,y2,y3,y4,y5,y6]
 | [],x1,x2,x3,x4,x5,x6=>⟨x1,x2,x3,x4,x5,x6,rfl⟩
 | k::ks,x1,x2,x3,x4,x5,x6=>by
  obtain ⟨y2,y3,y4,y5,y6,e⟩:=Es (Cs:=Cs) (Co:=Co) (Cr:=Cr) (fz:=fz) (ns:=ns) (k:=k) (x2:=x2) (x3:=x3) (x4:=x4) (x5:=x5) (x6:=x6)
  obtain ⟨z1,z2,z3,z4,z5,z6,ih⟩:=xI ks (vI k) y2 y3 y4 y5 y6
  exact ⟨z1,z2,z3,z4,z5,z6,(gT rfl e).trans ih⟩
theorem H8 {Cs Co Cr:Addr} (ns:List Int) (fz:Bool):au (tU wY sg (adG Cs Co Cr) (leF Co) (nZ Co) (coG Co) (ar 7 [.lst fz (ns.map .int)]))=.ok (.bl true):=by
 obtain ⟨y1,y2,y3,y4,y5,y6,lp⟩:=xI (Cs:=Cs) (Co:=Co) (Cr:=Cr) (fz:=fz) (ns:=ns) (List.range 8) none none none none none none
 have r1:eO [.int 8]=.ok ((List.range 8).map fun (i:Nat)=>D.int (i:Int)):=vp (n:=8) (by decide)
 show au (ay _ _ [vL fz ns,none,none,none,none,none,none])=_
 unfold BM Bq
 generalize (List.range 8).map (fun (i:Nat)=>D.int (i:Int))=RG at *
 walk_at "run"
end Q22
namespace Q
open PySem PySem.Spec PyProof.Rows L2
theorem uF (h:us.length=1):∃ a,us=[a]:=by
 match us,h with
 | [a],_=>exact ⟨a,rfl⟩
theorem wS (h:us.length=2):∃ a b,us=[a,b]:=by
 match us,h with
 | [a,b],_=>exact ⟨a,b,rfl⟩
theorem zo (h:us.length=3):∃ a b c,us=[a,b,c]:=by
 match us,h with
 | [a,b,c],_=>exact ⟨a,b,c,rfl⟩
theorem IK (h:us.length=4):∃ a b c d,us=[a,b,c,d]:=by
 match us,h with
 | [a,b,c,d],_=>exact ⟨a,b,c,d,rfl⟩
theorem Ku (h:us.length=5):∃ a b c d e,us=[a,b,c,d,e]:=by
 match us,h with
 | [a,b,c,d,e],_=>exact ⟨a,b,c,d,e,rfl⟩
theorem Eb {K:PySem.W.Frag} {hp:Heap} {mg:Str->Option Value} {bm:List Value} {nid:String} (kin:K.In hp) (gl:hp.Ns mainGlobals mg) (e1:PySem.W.nsIn K mainGlobals x=some (some (.ref C))) (e2:PySem.W.excIn K C bm nid=true):OwnCls x C bm nid mg hp:=by
 constructor
 ·exact PySem.W.mg_of kin gl e1
 ·unfold PySem.W.excIn at e2
  split at e2
  ·rename_i dct kl sls look
   split at e2
   ·rename_i C0 more s0 s1 s2 s3 nw s5 hmro hsls
    simp only [Bool.and_eq_true,beq_iff_eq,Bool.not_eq_true'] at e2
    obtain ⟨⟨⟨⟨⟨eC,en⟩,edel⟩,etail⟩,ens⟩,einit⟩:=e2
    obtain ⟨f1,f2,f3,f4,f5,f6,f7,f8,f9,f10,f11⟩:=kl
    dsimp only at hmro edel ens einit
    have es:sls = #[s0,s1,s2,s3,some (.builtin nw),s5]:=by
     obtain ⟨ls⟩:=sls
     simp only at hsls
     rw [hsls]
    subst hmro edel es eC en
    exact ⟨more,f4,f1,f5,f2,f6,f7,f8,f9,f10,dct,s0,s1,s2,s3,s5,_,kin _ _ look,.of_isNs (PySem.W.isNs_of_in kin ens),PySem.W.nsMap_none_of_in kin ens einit,PySem.W.tail_of_in kin etail⟩
   ·cases e2
  ·cases e2
theorem zl {K:PySem.W.Frag} {hp:Heap} {mg:Str->Option Value} (kin:K.In hp) (gl:hp.Ns mainGlobals mg) (e1:PySem.W.nsIn K mainGlobals x=some (some (.ref C))) (e2:PySem.W.excIn K C [.type "ValueError",.type "Exception",.type "BaseException",.type "object"] "ValueError.__new__"=true):Ref x C mg hp:=
 ⟨_,_,_,_,Eb kin gl e1 e2,PySem.F.excBase_ValueError⟩
theorem rW {K:PySem.W.Frag} {G:Hp}:∀ ns:List Int,Reps K G (ns.map V.int) (ns.map D.int)
 | []=>.nil
 | i::ns=>.cons (.int i) (rW ns)
noncomputable def Au:List D->R D
 | [.lst _ ds]=>match pT ds with
  | some _=>.ok (.bl true)
  | none=>.no
 | _=>.no
theorem E1 (h:∀ (ns:List Int) (fz:Bool),g [.lst fz (ns.map .int)]=.ok (.bl true)):∀ ds:List D,ds.length=1->Au ds=.no\/g ds=Au ds:=by
 intro ds hl
 match ds,hl with
 | [d],_=>
  cases d <;> first|exact Or.inl rfl|skip
  rename_i fz ds hl
  cases hi:pT ds with
  | none=>exact Or.inl (by simp only [Au,hi])
  | some ns=>
   have e:=vG hi
   subst e
   refine Or.inr ?_
   rw [h ns fz]
   simp only [Au,hi]
theorem Lg {l:PySem.W.OpenLaw} {q:Program} {XP:(Str->Option Value)->Heap->Prop} {YP:World->Heap->Prop} {d:DefRec} {K:Params->PySem.W.Frag} {L:Nat} (hL:Room L callerA) (hn:l.most=some 63) (hdf:d.params.defaults=[])
 (hY:∀ (w:World) (h:Heap),YP w h->(K w.params).In h)
 (F:∀ (w:World) (mg:Str->Option Value) (fa:Addr) (h:Heap),(K w.params).In h->h.Ns mainGlobals mg->mg d.name=some (.ref fa)->
 ∃ fd:FuncData,(∀ (s:Shared) (u:Value),BindsTo s fd ⟨[u],[]⟩ [("_law_script",u)])/\∀ base:Heap,(K w.params).In base->base.Ns mainGlobals mg->FnF l.prog w (K w.params) mg base L fa fd ["_law_script"] Au) :
  PySem.W.WalkO q loose XP YP l.row.toRowW d [] (fun f vs=>PySem.call f vs):=
 L2.xX (n:=63) (k:=L) (x:="_law_script") (CX:=fun w=>CXo l.prog w) (sp:=fun w vs H Q E=>vs.length=1/\spF (K w.params) Au vs H Q E) hn (by decide) hdf hL hY F
  (fun w H a ns hl hO hS=>⟨rfl,H,[.lst true (ns.map .int)],.refl _,.cons (.fls hS (rW ns)) .nil,by
   have e:Au [.lst true (ns.map .int)]=.ok (.bl true):=by simp only [Au,qV]
   rw [e]
   exact fun v G' H' u r=>r.bl_inv⟩)
  fun w H s e s' z=>by obtain ⟨a,C,H',_,_,z⟩:=z;exact z
theorem bc {K:PySem.W.Frag} {mg:Str->Option Value} {oc:Value} {an:Option Addr} {kV doc pm ct:Value} (X:K.In h) (G:h.Ns mainGlobals mg) (a:PySem.W.nsIn K mainGlobals x=some (some (.ref f)))
 (l:K.lookup f=some ⟨oc,od,.func (PySem.W.fnOf x x (iG st) (ck st) (am st) .none kV doc pm an cdv ct),osl⟩) (c:PySem.W.codeIn K cdv x=true) (k:PySem.W.keepIn K (.ref f)=true):∃ f fd,Fun K x x st f fd/\mg x=some (.ref f):=
 ⟨f,_,Fa l c k,PySem.W.mg_of X G a⟩
section
variable {P:Program} {w:World} {K:PySem.W.Frag} {mg:Str->Option Value} {base:Heap} {C:Addr} {x qual:Str} {st:Stmt} {f:Addr} {fd:FuncData} {ps:List Str} {k n:Nat} {G:MF}
theorem yr {n:Nat} (F:Fun K x x st f fd) (hm:mg x=some (.ref f)) (ok:FnM P w K mg base k f fd ps C G)
 (h:∀ (kV doc pm:Value) (an:Option Addr) (cdv ct:Value) (us:List Value),us.length=ps.length->bindArgs (PySem.W.fnOf x x (iG st) (ck st) (am st) .none kV doc pm an cdv ct) ⟨us,[]⟩=pure (ps.zip us)) (e:ps.length=n+1):CalleeM P w K mg base C x k n G:=
 ⟨f,fd,ps,ok,hm,F.kp,F.binds h,e⟩
end
theorem jV {K:PySem.W.Frag} {its:Array Value} {n:Nat} (l:K.lookup a=some ⟨.type "tuple",od,.seq its n,osl⟩) (hz:its.size<=sizeLine) (v:Vals vs its.toList) (r:∀ G,Reps K G vs ds):lc K a (.tup ds):=zY l rfl rfl hz v r
theorem lY {K:PySem.W.Frag} {mg:Str->Option Value} (X:K.In h) (G:h.Ns mainGlobals mg) (e:PySem.W.nsIn K mainGlobals x=some (some (.ref a))) (k:lc K a (.tup ds)):∃ a,mg x=some (.ref a)/\lc K a (.tup ds):=
 ⟨a,PySem.W.mg_of X G e,k⟩
end Q
namespace G22
open PySem PySem.Spec PyProof.Rows L2 Q Q22
local macro_rules | `(tactic| walk_at "s") => `(tactic| exact ⟨rfl,rfl,rfl,by decide +kernel,rfl,by decide +kernel,by decide +kernel⟩)
local macro_rules | `(tactic| walk_at "1") => `(tactic| (intro _ _ _ _ _ _ us hl;obtain ⟨a,z⟩:=uF hl;subst z;rfl))
local macro_rules | `(tactic| walk_at "2") => `(tactic| (intro _ _ _ _ _ _ us hl;obtain ⟨a,b,z⟩:=wS hl;subst z;rfl))
local macro_rules | `(tactic| walk_at "3") => `(tactic| (intro _ _ _ _ _ _ us hl;obtain ⟨a,b,c,z⟩:=zo hl;subst z;rfl))
local macro_rules | `(tactic| walk_at "4") => `(tactic| (intro _ _ _ _ _ _ us hl;obtain ⟨a,b,c,d,z⟩:=IK hl;subst z;rfl))
local macro_rules | `(tactic| walk_at "5") => `(tactic| (intro _ _ _ _ _ _ us hl;obtain ⟨a,b,c,d,e,z⟩:=Ku hl;subst z;rfl))
noncomputable abbrev top (i:Nat):Stmt:=PySem.Challenge.pw_screenlines_k22_whole_least_by_orders.main.body.getD i (.Pass ⟨0,0,0,0⟩)
noncomputable abbrev FUz (K:PySem.W.Frag) (n:Str) (i:Nat):=Fun K n n (top i)
section
variable {P:Program} {w:World} {K:PySem.W.Frag} {mg:Str->Option Value} {base:Heap}
theorem tj:FnScope ["_law_script","_law_k"] ["_law_script","_law_k"] (am (top 57)):=by walk_at "s"
theorem tH (bo:mg "len"=none) (Fn:FUz K "_law_cell" 57 f fd):FnF P w K mg base 1 f fd ["_law_script","_law_k"] (fun ds=>au (cZ (ar 2 ds))):=by
 refine Fn.okF tj (k:=0) (g:=cZ) fun _ _ _ _ _ _ hr=>?_
 have hu:=hr.units
 exact (ag (gZ (BU (ae at1) (dE rfl bo (aa (ae at0) ad))) (ag (br (aM (ae at0) (ae at1))) ax) ax) (ag (gZ (oq hu (ae at0) (fV (jd ad))) (ag (br ak) ax) ax) (ag (br (bb (jc (aM (ae at0) (uB (ae at1) (dE rfl bo (aa (ae at0) ad)))) ak) (ae at1))) ax)))
theorem sQ:FnScope ["_law_script","_law_k","_law_many","_law_drawn"] ["_law_script","_law_k","_law_many"] (am (top 58)):=by walk_at "s"
theorem tR {bQ:List D->R D} (sC:Callee P w K mg base "_law_cell" 1 2 bQ) (Fn:FUz K "_law_pick" 58 f fd):FnF P w K mg base 2 f fd ["_law_script","_law_k","_law_many"] (fun ds=>au (db bQ (ar 4 ds))):=by
 have hN:(["_law_script","_law_k","_law_many","_law_drawn"]:List Str).Nodup:=by decide
 exact Fn.okF sQ (k:=1) (g:=db bQ) fun _ _ _ _ _ _ hr=>(ag (bX at3 hN (uB (jc (bb (aA sC hr (aa (ae at0) (aa (ae at1) ad))) (jc ak (bb (ae at1) ak))) ak) ak)) (ag (br (uB (uB (bb (jc (ae at3) (ae at3)) (Dt (ae at3) ak)) ak) (ae at2))) ax))
theorem kL:FnScope ["_law_script","_law_at","_law_width","_law_many","_law_rows","_law_k","_law_turn","_law_row","_law_gap","_law_size"] ["_law_script","_law_at"] (am (top 60)):=by walk_at "s"
theorem kU (dI:mg "range"=none) (cf:mg "tuple"=none) (bv:Callee P w K mg base "_law_pick" 2 3 aj) (Fn:FUz K "_law_screen_of" 60 f fd):FnF P w K mg base 3 f fd ["_law_script","_law_at"] (fun ds=>au (cR aj (ar 10 ds))):=by
 have hN:(["_law_script","_law_at","_law_width","_law_many","_law_rows","_law_k","_law_turn","_law_row","_law_gap","_law_size"]:List Str).Nodup:=by decide
 exact Fn.okF kL (k:=2) (g:=cR aj) fun _ _ _ _ _ _ hr=>(ag (CO 2 3 rfl hN (aa (bb ak (aA bv hr (aa (ae at0) (aa (ae at1) (aa ak ad))))) (aa (bb ak (aA bv hr (aa (ae at0) (aa (bb (ae at1) ak) (aa ak ad))))) ad))) (ag (Cj 4 hN (jd ad)) (ag (qK PassesOwn.leaving rfl (uv rfl dI (aa (ae at3) ad)) (cw 5 hN) (ag (bX at6 hN (aA bv hr (aa (ae at0) (aa (bb (bb (ae at1) ak) (ae at5)) (aa ak ad))))) (ag (bX at7 hN (cr (bb (ba (l:=[107,108,109,110,111,112,113,114,115,116,117,118,119]) rfl (by decide)) (ba (l:=[107,108,109,110,111,112,113,114,115,116,117,118,119]) rfl (by decide))) (fb (ae at6)) (fb (bb (ae at6) (ae at2))))) (ag (CO 8 9 rfl hN (aa (aA bv hr (aa (ae at0) (aa (bb (bb (ae at1) ak) (ae at5)) (aa (ae at2) ad)))) (aa (aA bv hr (aa (ae at0) (aa (bb (bb (ae at1) ak) (ae at5)) (aa ak ad)))) ad))) (ag (um 4 (bb (cr (ae at7) cI (fb (ae at8))) (cr (bb (jc (ba (l:=[32]) rfl (by decide)) (ae at9)) (cr (ae at7) (fb (bb (ae at8) (ae at9))) cI)) cI (fb (nD (ae at2) (ae at8)))))) ax))))) (Ck 4 (ag (br (bV (aa (ae at2) (aa (xJ rfl cf (aa (ae at4) ad)) (aa (bV (aa (aA bv hr (aa (ae at0) (aa (bb (ae at1) ak) (aa (ae at3) ad)))) (aa (aA bv hr (aa (ae at0) (aa (bb (ae at1) ak) (aa (bb (ae at2) ak) ad)))) ad))) ad))))) ax)))))
theorem pN:FnScope ["_law_script","_law_at","_law_screen","_law_width","_law_rows","_law_row","_law_column","_law_far","_law_word","_law_near","_law_fits","_law_way"] ["_law_script","_law_at","_law_screen"] (am (top 59)):=by walk_at "s"
theorem oQ (bo:mg "len"=none) (bv:Callee P w K mg base "_law_pick" 2 3 aj) (Fn:FUz K "_law_orders" 59 f fd):FnF P w K mg base 3 f fd ["_law_script","_law_at","_law_screen"] (fun ds=>au (eV aj (ar 12 ds))):=by
 have hN:(["_law_script","_law_at","_law_screen","_law_width","_law_rows","_law_row","_law_column","_law_far","_law_word","_law_near","_law_fits","_law_way"]:List Str).Nodup:=by decide
 refine Fn.okF pN (k:=2) (g:=eV aj) fun _ _ _ _ _ _ hr=>?_
 have hu:=hr.units
 exact (ag (B1 (ae at2) rfl (gQ (cw 3 hN) (gQ (cw 4 hN) (gQ (ut rfl (gQ (cw 5 hN) (gQ (cw 6 hN) uy))) uy)))) (ag (CO 7 8 rfl hN (aa (aA bv hr (aa (ae at0) (aa (bb (ae at1) ak) (aa (ae at3) ad)))) (aa (cr (ba (l:=[120,121,122]) rfl (by decide)) cI (fb (bb ak (aA bv hr (aa (ae at0) (aa (bb (ae at1) ak) (aa ak ad))))))) ad))) (ag (bX at9 hN (aA bv hr (aa (ae at0) (aa (bb (ae at1) ak) (aa (bb (nD (ae at3) (dE rfl bo (aa (ae at8) ad))) ak) ad))))) (ag (bX Hi hN (Fs (bb (ae at6) (dE rfl bo (aa (ae at8) ad))) (ae at3))) (ag (bX FU hN (aA bv hr (aa (ae at0) (aa (bb (ae at1) ak) (aa ak ad))))) (ag (gZ (BU (ae FU) ak) (ag (br (bb (xD (tW (ae Hi)) (fV (jd (aa (bV (aa (ba (l:=[115,97,121]) rfl (by decide)) (aa (ae at8) ad))) ad))) (fV (jd ad))) (fV (jd (aa (bV (aa (ba (l:=[103,111]) rfl (by decide)) (aa (ae at5) (aa (ae at7) ad)))) (aa (bV (aa (ba (l:=[119,105,112,101]) rfl (by decide)) ad)) ad)))))) ax) ax) (ag (gZ (oq hu (ae FU) ak) (ag (br (fV (jd (aa (bV (aa (ba (l:=[119,105,112,101]) rfl (by decide)) ad)) (aa (bV (aa (ba (l:=[103,111]) rfl (by decide)) (aa (ae at5) (aa (ae at9) ad)))) (aa (bV (aa (ba (l:=[115,97,121]) rfl (by decide)) (aa (ae at8) ad))) ad)))))) ax) ax) (ag (gZ (oq hu (ae FU) ak) (ag (br (bb (xD (tW (ae Hi)) (fV (jd (aa (bV (aa (ba (l:=[115,97,121]) rfl (by decide)) (aa (ae at8) ad))) ad))) (fV (jd ad))) (fV (jd (aa (bV (aa (ba (l:=[119,105,112,101]) rfl (by decide)) ad)) ad))))) ax) ax) (ag (gZ (oq hu (ae FU) ak) (ag (br (fV (jd (aa (bV (aa (ba (l:=[103,111]) rfl (by decide)) (aa (ae at5) (aa (ae at9) ad)))) (aa (bV (aa (ba (l:=[115,97,121]) rfl (by decide)) (aa (ae at8) ad))) (aa (bV (aa (ba (l:=[119,105,112,101]) rfl (by decide)) ad)) ad)))))) ax) ax) (ag (br (fV (jd (aa (bV (aa (ba (l:=[103,111]) rfl (by decide)) (aa (nD (dE rfl bo (aa (ae at4) ad)) ak) (aa (ae at9) ad)))) (aa (bV (aa (ba (l:=[115,97,121]) rfl (by decide)) (aa (ae at8) ad))) (aa (bV (aa (ba (l:=[103,111]) rfl (by decide)) (aa ak (aa (ae at7) ad)))) (aa (bV (aa (ba (l:=[119,105,112,101]) rfl (by decide)) ad)) ad))))))) ax))))))))))
theorem sj:FnScope ["thing"] ["thing"] (am (top 6)):=by walk_at "s"
theorem sV (qL:mg "bool"=none) (tJ:mg "int"=none) (aw:mg "isinstance"=none) (Fn:FUz K "is_whole" 6 f fd):FnF P w K mg base 1 f fd ["thing"] (fun ds=>au (eN (ar 1 ds))):=by
 exact Fn.okF sj (k:=0) (g:=eN) fun _ _ _ _ _ _ hr=>(ag (br (iu (CZ aw (ae at0) tJ) (jq (GH (zD aw (ae at0) qL))))) ax)
theorem qB:FnScope ["thing","low","high"] ["thing","low","high"] (am (top 7)):=by walk_at "s"
theorem rQ {cT:List D->R D} (wA:Callee P w K mg base "is_whole" 1 1 cT) (Fn:FUz K "is_within" 7 f fd):FnF P w K mg base 2 f fd ["thing","low","high"] (fun ds=>au (dz cT (ar 3 ds))):=by
 exact Fn.okF qB (k:=1) (g:=dz cT) fun _ _ _ _ _ _ hr=>(ag (br (iu (aA wA hr (aa (ae at0) ad)) (jq (sZ (ae at1) (ae at0) (ae at2))))) ax)
theorem sR:FnScope ["thing"] ["thing"] (am (top 8)):=by walk_at "s"
theorem sK (lv:mg "all"=none) (aw:mg "isinstance"=none) (xC:mg "str"=none) (Fn:FUz K "is_plain" 8 f fd):FnF P w K mg base 1 f fd ["thing"] (fun ds=>au (eB (ar 1 ds))):=by
 exact Fn.okF sR (k:=0) (g:=eB) fun _ _ _ _ _ _ hr=>(ag (br (iu (CH aw (ae at0) xC) (jq (Df rfl rfl lv (aa (nT (hU (N':=["sign"]) (ix:=[]) jP rfl (jt (ae at0)) (fun C s₂ H₂ fp=>(sZ (ba (l:=[32]) rfl (by decide)) (fP at0) (ba (l:=[126]) rfl (by decide)))) (fun C s₂ H₂ fp=>mI))) ad))))) ax)
theorem kR:FnScope ["thing","width"] ["thing","width"] (am (top 12)):=by walk_at "s"
theorem kS (lv:mg "all"=none) (aw:mg "isinstance"=none) (bo:mg "len"=none) (cf:mg "tuple"=none) {fy:Tok} (bI:mg "MOST_ROWS"=some (.int 12 fy)) (fu:Callee P w K mg base "is_plain" 1 1 aD) (Fn:FUz K "are_full_rows" 12 f fd):FnF P w K mg base 2 f fd ["thing","width"] (fun ds=>au (cg aD (ar 2 ds))):=by
 refine Fn.okF kR (k:=1) (g:=cg aD) fun _ _ _ _ _ _ hr=>?_
 have hu:=hr.units
 exact (ag (gZ (pj (jf (fR (gF (jb aw (ae at0) cf))) (fG (fR (De ak (dE rfl bo (aa (ae at0) ad)) (eE rfl bI)))))) (ag (br kT) ax) ax) (ag (br (Df rfl rfl lv (aa (nT (hU (N':=["row","width"]) (ix:=[1]) jP rfl (jt (ae at0)) (fun C s₂ H₂ fp=>(iu (aA fu hr (aa (fP at0) ad)) (jq (Az hu (dE rfl bo (aa (fP at0) ad)) (fP at1))))) (fun C s₂ H₂ fp=>mI))) ad))) ax))
theorem sB:FnScope ["thing","width","many"] ["thing","width","many"] (am (top 13)):=by walk_at "s"
theorem sS (aw:mg "isinstance"=none) (bo:mg "len"=none) (cf:mg "tuple"=none) (cB:Callee P w K mg base "is_within" 2 3 av) (Fn:FUz K "is_place" 13 f fd):FnF P w K mg base 3 f fd ["thing","width","many"] (fun ds=>au (eA av (ar 3 ds))):=by
 refine Fn.okF sB (k:=2) (g:=eA av) fun _ _ _ _ _ _ hr=>?_
 have hu:=hr.units
 exact (ag (gZ (pj (jf (fR (gF (jb aw (ae at0) cf))) (fG (pU hu (dE rfl bo (aa (ae at0) ad)) ak)))) (ag (br kT) ax) ax) (ag (br (iu (aA cB hr (aa (aM (ae at0) ak) (aa ak (aa (nD (ae at2) ak) ad)))) (jq (aA cB hr (aa (aM (ae at0) ak) (aa ak (aa (ae at1) ad))))))) ax))
theorem qW:FnScope ["thing","width"] ["thing"] (am (top 14)):=by walk_at "s"
theorem rR {aL bB:List D->R D} (aw:mg "isinstance"=none) (bo:mg "len"=none) (cf:mg "tuple"=none) {eK:Tok} (bz:mg "MOST_WIDTH"=some (.int 40 eK)) (cB:Callee P w K mg base "is_within" 3 3 av) (lB:Callee P w K mg base "are_full_rows" 3 2 aL) (vW:Callee P w K mg base "is_place" 3 3 bB) (Fn:FUz K "is_screen" 14 f fd):FnF P w K mg base 4 f fd ["thing"] (fun ds=>au (dq av aL bB (ar 2 ds))):=by
 have hN:(["thing","width"]:List Str).Nodup:=by decide
 refine Fn.okF qW (k:=3) (g:=dq av aL bB) fun _ _ _ _ _ _ hr=>?_
 have hu:=hr.units
 exact (ag (gZ (pj (jf (fR (gF (jb aw (ae at0) cf))) (fG (pU hu (dE rfl bo (aa (ae at0) ad)) ak)))) (ag (br kT) ax) ax) (ag (bX at1 hN (aM (ae at0) ak)) (ag (gZ (pj (jf (fR (gF (aA cB hr (aa (ae at1) (aa ak (aa (eE rfl bz) ad)))))) (fG (fR (gF (aA lB hr (aa (aM (ae at0) ak) (aa (ae at1) ad)))))))) (ag (br kT) ax) ax) (ag (br (aA vW hr (aa (aM (ae at0) ak) (aa (ae at1) (aa (dE rfl bo (aa (aM (ae at0) ak) ad)) ad))))) ax))))
theorem zQz9:FnScope ["thing"] ["thing"] (am (top 15)):=by walk_at "s"
theorem mz {cD:List D->R D} (dG:Ref "NoScreen" bj mg base) (tN:Callee P w K mg base "is_screen" 4 1 cD) (Fn:FUz K "check_screen" 15 f fd):FnF P w K mg base 5 f fd ["thing"] (fun ds=>au (cq cD bj (ar 1 ds))):=by
 refine Fn.okF zQz9 (k:=4) (g:=cq cD bj) fun _ _ _ _ _ _ hr=>?_
 have hh:=hr.hd
 exact (ag (gZ (fR (gF (aA tN hr (aa (ae at0) ad)))) (ag (jG dG hh (ba (l:=[116,104,105,115,32,105,115,32,110,111,32,115,99,114,101,101,110]) rfl (by decide))) ax) ax) ax)
theorem xZ:FnScope ["thing"] ["thing"] (am (top 23)):=by walk_at "s"
theorem xy (bo:mg "len"=none) {fI:Tok} (bH:mg "MOST_SAID"=some (.int 40 fI)) (fu:Callee P w K mg base "is_plain" 1 1 aD) (Fn:FUz K "is_say" 23 f fd):FnF P w K mg base 2 f fd ["thing"] (fun ds=>au (jO aD (ar 1 ds))):=by
 refine Fn.okF xZ (k:=1) (g:=jO aD) fun _ _ _ _ _ _ hr=>?_
 have hu:=hr.units
 exact (ag (br (iu (Az hu (dE rfl bo (aa (ae at0) ad)) ak) (iu (Az hu (aM (ae at0) ak) (ba (l:=[115,97,121]) rfl (by decide))) (iu (aA fu hr (aa (aM (ae at0) ak) ad)) (jq (sZ ak (dE rfl bo (aa (aM (ae at0) ak) ad)) (eE rfl bH))))))) ax)
theorem Ad:FnScope ["thing"] ["thing"] (am (top 24)):=by walk_at "s"
theorem Ak (bo:mg "len"=none) {fy:Tok} (bI:mg "MOST_ROWS"=some (.int 12 fy)) {eK:Tok} (bz:mg "MOST_WIDTH"=some (.int 40 eK)) (cB:Callee P w K mg base "is_within" 2 3 av) (Fn:FUz K "is_go" 24 f fd):FnF P w K mg base 3 f fd ["thing"] (fun ds=>au (lD av (ar 1 ds))):=by
 refine Fn.okF Ad (k:=2) (g:=lD av) fun _ _ _ _ _ _ hr=>?_
 have hu:=hr.units
 exact (ag (gZ (pj (jf (pU hu (dE rfl bo (aa (ae at0) ad)) ak) (fG (pU hu (aM (ae at0) ak) (ba (l:=[103,111]) rfl (by decide)))))) (ag (br kT) ax) ax) (ag (br (iu (aA cB hr (aa (aM (ae at0) ak) (aa ak (aa (nD (eE rfl bI) ak) ad)))) (jq (aA cB hr (aa (aM (ae at0) ak) (aa ak (aa (eE rfl bz) ad))))))) ax))
theorem tP:FnScope ["thing"] ["thing"] (am (top 25)):=by walk_at "s"
theorem sH {dm fC:List D->R D} (aw:mg "isinstance"=none) (cf:mg "tuple"=none) (Aq:Callee P w K mg base "is_say" 3 1 dm) (B6:Callee P w K mg base "is_go" 3 1 fC) (Fn:FUz K "is_order" 25 f fd):FnF P w K mg base 4 f fd ["thing"] (fun ds=>au (gU dm fC (ar 1 ds))):=by
 refine Fn.okF tP (k:=3) (g:=gU dm fC) fun _ _ _ _ _ _ hr=>?_
 have hu:=hr.units
 exact (ag (gZ (fR (gF (jb aw (ae at0) cf))) (ag (br kT) ax) ax) (ag (br (Ga (aA Aq hr (aa (ae at0) ad)) (Ga (aA B6 hr (aa (ae at0) ad)) (jq (Az hu (ae at0) (bV (aa (ba (l:=[119,105,112,101]) rfl (by decide)) ad))))))) ax))
theorem nv:FnScope ["thing"] ["thing"] (am (top 26)):=by walk_at "s"
theorem nA {cQ:List D->R D} (fq:Ref "NoOrder" bf mg base) (vT:Callee P w K mg base "is_order" 4 1 cQ) (Fn:FUz K "check_order" 26 f fd):FnF P w K mg base 5 f fd ["thing"] (fun ds=>au (dP cQ bf (ar 1 ds))):=by
 refine Fn.okF nv (k:=4) (g:=dP cQ bf) fun _ _ _ _ _ _ hr=>?_
 have hh:=hr.hd
 exact (ag (gZ (fR (gF (aA vT hr (aa (ae at0) ad)))) (ag (jG fq hh (ba (l:=[116,104,105,115,32,105,115,32,110,111,32,111,114,100,101,114]) rfl (by decide))) ax) ax) ax)
theorem mB:FnScope ["thing","order"] ["thing"] (am (top 27)):=by walk_at "s"
theorem lL {bh:List D->R D} (aw:mg "isinstance"=none) (eD:mg "list"=none) (fq:Ref "NoOrder" bf mg base) (oO:Callee P w K mg base "check_order" 5 1 bh) (Fn:FUz K "check_orders" 27 f fd):FnF P w K mg base 6 f fd ["thing"] (fun ds=>au (df bh bf (ar 2 ds))):=by
 have hN:(["thing","order"]:List Str).Nodup:=by decide
 refine Fn.okF mB (k:=5) (g:=df bh bf) fun _ _ _ _ _ _ hr=>?_
 have hh:=hr.hd
 exact (ag (gZ (fR (gF (uU aw (ae at0) eD))) (ag (jG fq hh (ba (l:=[116,104,105,115,32,105,115,32,110,111,32,108,105,115,116,32,111,102,32,111,114,100,101,114,115]) rfl (by decide))) ax) ax) (ag (qK PassesOwn.leaving rfl (jt (ae at0)) (cw 1 hN) (ag (lF (aA oO hr (aa (ae at1) ad))) ax)) ax))
theorem ii:FnScope ["screen","row","column","number","rows"] ["screen","row","column"] (am (top 28)):=by walk_at "s"
theorem ij (Fn:FUz K "with_row_at_place" 28 f fd):FnF P w K mg base 1 f fd ["screen","row","column"] (fun ds=>au (cc (ar 5 ds))):=by
 have hN:(["screen","row","column","number","rows"]:List Str).Nodup:=by decide
 exact Fn.okF ii (k:=0) (g:=cc) fun _ _ _ _ _ _ hr=>(ag (bX at3 hN (aM (aM (ae at0) ak) ak)) (ag (bX at4 hN (bb (bb (cr (aM (ae at0) ak) cI (fb (ae at3))) (bV (aa (ae at1) ad))) (cr (aM (ae at0) ak) (fb (bb (ae at3) ak)) cI))) (ag (br (bV (aa (aM (ae at0) ak) (aa (ae at4) (aa (bV (aa (ae at3) (aa (ae at2) ad))) ad))))) ax)))
theorem qu:FnScope ["screen","text","row","begin","end"] ["screen","text"] (am (top 29)):=by walk_at "s"
theorem qJ (bo:mg "len"=none) (ia:Ref "NoRoom" aX mg base) (cA:Callee P w K mg base "with_row_at_place" 1 3 ai) (Fn:FUz K "after_say" 29 f fd):FnF P w K mg base 2 f fd ["screen","text"] (fun ds=>au (fE ai aX (ar 5 ds))):=by
 have hN:(["screen","text","row","begin","end"]:List Str).Nodup:=by decide
 refine Fn.okF qu (k:=1) (g:=fE ai aX) fun _ _ _ _ _ _ hr=>?_
 have hh:=hr.hd
 exact (ag (bX at2 hN (aM (aM (ae at0) ak) (aM (aM (ae at0) ak) ak))) (ag (bX at3 hN (aM (aM (ae at0) ak) ak)) (ag (bX at4 hN (bb (ae at3) (dE rfl bo (aa (ae at1) ad)))) (ag (gZ (za (ae at4) (aM (ae at0) ak)) (ag (jG ia hh (ba (l:=[116,104,101,32,116,101,120,116,32,105,115,32,119,105,100,101,114,32,116,104,97,110,32,119,104,97,116,32,105,115,32,108,101,102,116,32,111,102,32,116,104,101,32,114,111,119]) rfl (by decide))) ax) ax) (ag (br (aA cA hr (aa (ae at0) (aa (bb (bb (cr (ae at2) cI (fb (ae at3))) (ae at1)) (cr (ae at2) (fb (ae at4)) cI)) (aa (ae at4) ad))))) ax)))))
theorem ud:FnScope ["screen","number","column"] ["screen","number","column"] (am (top 30)):=by walk_at "s"
theorem ua (bo:mg "len"=none) (ia:Ref "NoRoom" aX mg base) (Fn:FUz K "after_go" 30 f fd):FnF P w K mg base 1 f fd ["screen","number","column"] (fun ds=>au (gC aX (ar 3 ds))):=by
 refine Fn.okF ud (k:=0) (g:=gC aX) fun _ _ _ _ _ _ hr=>?_
 have hh:=hr.hd
 exact (ag (gZ (pj (jf (Hx (ae at1) (dE rfl bo (aa (aM (ae at0) ak) ad))) (fG (za (ae at2) (aM (ae at0) ak))))) (ag (jG ia hh (ba (l:=[116,104,101,32,115,99,114,101,101,110,32,100,111,101,115,32,110,111,116,32,104,97,118,101,32,116,104,105,115,32,112,108,97,99,101]) rfl (by decide))) ax) ax) (ag (br (bV (aa (aM (ae at0) ak) (aa (aM (ae at0) ak) (aa (bV (aa (ae at1) (aa (ae at2) ad))) ad))))) ax))
theorem oE:FnScope ["screen","row","column"] ["screen"] (am (top 31)):=by walk_at "s"
theorem oA (cA:Callee P w K mg base "with_row_at_place" 1 3 ai) (Fn:FUz K "after_wipe" 31 f fd):FnF P w K mg base 2 f fd ["screen"] (fun ds=>au (eR ai (ar 3 ds))):=by
 have hN:(["screen","row","column"]:List Str).Nodup:=by decide
 exact Fn.okF oE (k:=1) (g:=eR ai) fun _ _ _ _ _ _ hr=>(ag (bX at1 hN (aM (aM (ae at0) ak) (aM (aM (ae at0) ak) ak))) (ag (bX at2 hN (aM (aM (ae at0) ak) ak)) (ag (br (aA cA hr (aa (ae at0) (aa (xS (cr (ae at1) cI (fb (ae at2))) (aa (aM (ae at0) ak) ad)) (aa (ae at2) ad))))) ax)))
theorem nr:FnScope ["screen","order"] ["screen","order"] (am (top 32)):=by walk_at "s"
theorem ny {bD bK bu:List D->R D} (tO:Callee P w K mg base "after_say" 2 2 bD) (vO:Callee P w K mg base "after_go" 2 3 bK) (rA:Callee P w K mg base "after_wipe" 2 1 bu) (Fn:FUz K "after_order" 32 f fd):FnF P w K mg base 3 f fd ["screen","order"] (fun ds=>au (dJ bD bK bu (ar 2 ds))):=by
 refine Fn.okF nr (k:=2) (g:=dJ bD bK bu) fun _ _ _ _ _ _ hr=>?_
 have hu:=hr.units
 exact (ag (gZ (oq hu (aM (ae at1) ak) (ba (l:=[115,97,121]) rfl (by decide))) (ag (br (aA tO hr (aa (ae at0) (aa (aM (ae at1) ak) ad)))) ax) ax) (ag (gZ (oq hu (aM (ae at1) ak) (ba (l:=[103,111]) rfl (by decide))) (ag (br (aA vO hr (aa (ae at0) (aa (aM (ae at1) ak) (aa (aM (ae at1) ak) ad))))) ax) ax) (ag (br (aA rA hr (aa (ae at0) ad))) ax)))
theorem tq:FnScope ["screen","orders","current","order"] ["screen","orders"] (am (top 33)):=by walk_at "s"
theorem tT {aJ:List D->R D} (eU:Callee P w K mg base "check_screen" 6 1 aq) (cm:Callee P w K mg base "check_orders" 6 1 ah) (pM:Callee P w K mg base "after_order" 6 2 aJ) (Fn:FUz K "all_done" 33 f fd):FnF P w K mg base 7 f fd ["screen","orders"] (fun ds=>au (gR aq ah aJ (ar 4 ds))):=by
 have hN:(["screen","orders","current","order"]:List Str).Nodup:=by decide
 exact Fn.okF tq (k:=6) (g:=gR aq ah aJ) fun _ _ _ _ _ _ hr=>(ag (lF (aA eU hr (aa (ae at0) ad))) (ag (lF (aA cm hr (aa (ae at1) ad))) (ag (bX at2 hN (ae at0)) (ag (qK PassesOwn.leaving rfl (jt (ae at1)) (cw 3 hN) (ag (bX at2 hN (aA pM hr (aa (ae at2) (aa (ae at3) ad)))) ax)) (ag (br (ae at2)) ax)))))
theorem sA:FnScope ["screen","thing"] ["screen","thing"] (am (top 16)):=by walk_at "s"
theorem tY (lv:mg "all"=none) (aw:mg "isinstance"=none) (bo:mg "len"=none) (eD:mg "list"=none) (eU:Callee P w K mg base "check_screen" 5 1 aq) (fu:Callee P w K mg base "is_plain" 5 1 aD) (Fn:FUz K "are_rows" 16 f fd):FnF P w K mg base 6 f fd ["screen","thing"] (fun ds=>au (gA aq aD (ar 2 ds))):=by
 exact Fn.okF sA (k:=5) (g:=gA aq aD) fun _ _ _ _ _ _ hr=>(ag (lF (aA eU hr (aa (ae at0) ad))) (ag (gZ (pj (jf (fR (gF (uU aw (ae at1) eD))) (fG (za (dE rfl bo (aa (ae at1) ad)) (dE rfl bo (aa (aM (ae at0) ak) ad)))))) (ag (br kT) ax) ax) (ag (br (Df rfl rfl lv (aa (nT (hU (N':=["row","screen"]) (ix:=[0]) jP rfl (jt (ae at1)) (fun C s₂ H₂ fp=>(iu (aA fu hr (aa (fP at0) ad)) (jq (Fs (dE rfl bo (aa (fP at0) ad)) (aM (fP at1) ak))))) (fun C s₂ H₂ fp=>mI))) ad))) ax)))
theorem pb:FnScope ["screen","thing"] ["screen","thing"] (am (top 17)):=by walk_at "s"
theorem pX {cS:List D->R D} (dG:Ref "NoScreen" bj mg base) (vZ:Callee P w K mg base "are_rows" 6 2 cS) (Fn:FUz K "check_rows" 17 f fd):FnF P w K mg base 7 f fd ["screen","thing"] (fun ds=>au (eS cS bj (ar 2 ds))):=by
 refine Fn.okF pb (k:=6) (g:=eS cS bj) fun _ _ _ _ _ _ hr=>?_
 have hh:=hr.hd
 exact (ag (gZ (fR (gF (aA vZ hr (aa (ae at0) (aa (ae at1) ad))))) (ag (jG dG hh (ba (l:=[116,104,101,115,101,32,97,114,101,32,110,111,32,114,111,119,115,32,116,104,97,116,32,116,104,101,32,115,99,114,101,101,110,32,99,97,110,32,115,104,111,119]) rfl (by decide))) ax) ax) ax)
theorem rh:FnScope ["screen","rows","width","missing"] ["screen","rows"] (am (top 18)):=by walk_at "s"
theorem qw (bo:mg "len"=none) (Fn:FUz K "full_rows" 18 f fd):FnF P w K mg base 1 f fd ["screen","rows"] (fun ds=>au (fM (ar 4 ds))):=by
 have hN:(["screen","rows","width","missing"]:List Str).Nodup:=by decide
 exact Fn.okF rh (k:=0) (g:=fM) fun _ _ _ _ _ _ hr=>(ag (bX at2 hN (aM (ae at0) ak)) (ag (bX at3 hN (nD (dE rfl bo (aa (aM (ae at0) ak) ad)) (dE rfl bo (aa (ae at1) ad)))) (ag (br (bb (nT (hU (N':=["row","width"]) (ix:=[2]) jP rfl (jt (ae at1)) (fun C s₂ H₂ fp=>(xS (fP at0) (aa (fP at1) ad))) (fun C s₂ H₂ fp=>mI))) (jc (fV (jd (aa (jc (ba (l:=[32]) rfl (by decide)) (ae at2)) ad))) (ae at3)))) ax)))
theorem oM:FnScope ["order"] ["order"] (am (top 34)):=by walk_at "s"
theorem pG (bo:mg "len"=none) {qe:Tok} (dU:mg "GO_COST"=some (.int 2 qe)) {mY:Tok} (cz:mg "WIPE_COST"=some (.int 1 mY)) (Fn:FUz K "order_cost" 34 f fd):FnF P w K mg base 1 f fd ["order"] (fun ds=>au (eP (ar 1 ds))):=by
 refine Fn.okF oM (k:=0) (g:=eP) fun _ _ _ _ _ _ hr=>?_
 have hu:=hr.units
 exact (ag (gZ (oq hu (aM (ae at0) ak) (ba (l:=[115,97,121]) rfl (by decide))) (ag (br (dE rfl bo (aa (aM (ae at0) ak) ad))) ax) ax) (ag (gZ (oq hu (aM (ae at0) ak) (ba (l:=[103,111]) rfl (by decide))) (ag (br (eE rfl dU)) ax) ax) (ag (br (eE rfl cz)) ax)))
theorem rY:FnScope ["plan"] ["plan"] (am (top 44)):=by walk_at "s"
theorem qR (Fn:FUz K "plan_cost" 44 f fd):FnF P w K mg base 1 f fd ["plan"] (fun ds=>au (fB (ar 1 ds))):=by
 exact Fn.okF rY (k:=0) (g:=fB) fun _ _ _ _ _ _ hr=>(ag (br (aM (ae at0) ak)) ax)
theorem zA:FnScope ["plans","state","plan"] ["plans","state","plan"] (am (top 45)):=by walk_at "s"
theorem Ar (mq:Callee P w K mg base "plan_cost" 1 1 aE) (ok:qN DC (fc aE) 3 F) (Fn:FUz K "offer" 45 f fd):FnM P w K mg base 2 f fd ["plans","state","plan"] DC F:=by
 refine Fn.okM zA ok (k:=1) fun _ _ _ _ _ _ hr=>?_
 have hu:=hr.units
 exact (ag (gZ (pj (jf (ED 0 hu (ae at1)) (fG (BU (aA mq hr (aa (ae at2) ad)) (aA mq hr (aa (rj 0 hu (ae at1)) ad)))))) (ag (Gb 0 hu (ae at2) (ae at1)) ax) ax) ax)
theorem iL:FnScope ["plans","state","plan","order"] ["plans","state","plan","order"] (am (top 46)):=by walk_at "s"
theorem iI {I_offer:MF} (gL:Callee P w K mg base "order_cost" 2 1 aV) (tu:CalleeM P w K mg base DC "offer" 2 2 I_offer) (ok:qN DC (bi I_offer aV) 4 F) (Fn:FUz K "offer_with_order" 46 f fd):FnM P w K mg base 3 f fd ["plans","state","plan","order"] DC F:=by
 exact Fn.okM iL ok (k:=2) fun _ _ _ _ _ _ hr=>(ag (nO (nM 0 tu hr (aa (ae at1) (aa (bV (aa (bb (aM (ae at2) ak) (aA gL hr (aa (ae at3) ad))) (aa (bb (aM (ae at2) ak) (bV (aa (ae at3) ad))) ad))) ad)))) ax)
theorem oN:FnScope ["plans","number","column","more"] ["plans","number","column"] (am (top 47)):=by walk_at "s"
theorem pR (qE:mg "dict"=none) (aU:mg "ELSEWHERE"=some (.ref a_ELSEWHERE)) (bq:lc K a_ELSEWHERE (D.tup [D.bl false,D.bl false])) (dc:mg "HERE"=some (.ref a_HERE)) (fo:lc K a_HERE (D.tup [D.bl true,D.bl false])) (aY:mg "HERE_WIPED"=some (.ref a_HERE_WIPED)) (bx:lc K a_HERE_WIPED (D.tup [D.bl true,D.bl true])) (aB:mg "ELSEWHERE_WIPED"=some (.ref a_ELSEWHERE_WIPED)) (aQ:lc K a_ELSEWHERE_WIPED (D.tup [D.bl false,D.bl true])) (bG:CalleeM P w K mg base DC "offer_with_order" 3 3 I_offer_with_order) (hg:∀ ds:List D,ds.length=3->gr ds=.no\/∀ q,au (bT I_offer_with_order q (ar 4 ds))=gr ds) (Fn:FUz K "with_moves" 47 f fd):FnF P w K mg base 4 f fd ["plans","number","column"] gr:=by
 have hN:(["plans","number","column","more"]:List Str).Nodup:=by decide
 refine Fn.okA oN (k:=3) (g:=bT I_offer_with_order) hg fun cdv A outer s H E hr=>?_
 have hu:=hr.units
 have h_1:PSF (kQ (CXo P w) P w K mg base ["plans","number","column","more"] "with_moves" (am (top 47)) f cdv A outer s H E) ((ck (top 47)).getD 1 (.Pass ⟨0,0,0,0⟩)) (dB I_offer_with_order):=(gZ (zO 3 hu (aZ rfl aU bq)) (ag (nO (nM 3 bG hr (aa (aZ rfl dc fo) (aa (rj 3 hu (aZ rfl aU bq)) (aa (bV (aa (ba (l:=[103,111]) rfl (by decide)) (aa (ae at1) (aa (ae at2) ad)))) ad))))) ax) ax)
 have h_2:PSF (kQ (CXo P w) P w K mg base ["plans","number","column","more"] "with_moves" (am (top 47)) f cdv A outer s H E) ((ck (top 47)).getD 2 (.Pass ⟨0,0,0,0⟩)) (dl I_offer_with_order):=(gZ (zO 3 hu (aZ rfl dc fo)) (ag (nO (nM 3 bG hr (aa (aZ rfl aY bx) (aa (rj 3 hu (aZ rfl dc fo)) (aa (bV (aa (ba (l:=[119,105,112,101]) rfl (by decide)) ad)) ad))))) ax) ax)
 have h_3:PSF (kQ (CXo P w) P w K mg base ["plans","number","column","more"] "with_moves" (am (top 47)) f cdv A outer s H E) ((ck (top 47)).getD 3 (.Pass ⟨0,0,0,0⟩)) (dF I_offer_with_order):=(gZ (zO 3 hu (aZ rfl aB aQ)) (ag (nO (nM 3 bG hr (aa (aZ rfl aY bx) (aa (rj 3 hu (aZ rfl aB aQ)) (aa (bV (aa (ba (l:=[103,111]) rfl (by decide)) (aa (ae at1) (aa (ae at2) ad)))) ad))))) ax) ax)
 have h_4:PSF (kQ (CXo P w) P w K mg base ["plans","number","column","more"] "with_moves" (am (top 47)) f cdv A outer s H E) ((ck (top 47)).getD 4 (.Pass ⟨0,0,0,0⟩)) (jk I_offer_with_order):=(A9 3)
 exact (A2 3 hN rfl qE (ae at0) (xg (ag h_1 (ag h_2 (ag h_3 (ag h_4 ax))))))
theorem mL:FnScope ["plans","old","new","further","state","plan","wiped"] ["plans","old","new"] (am (top 48)):=by walk_at "s"
theorem mG {I_offer:MF} (bG:CalleeM P w K mg base DC "offer_with_order" 3 3 I_offer_with_order) (tu:CalleeM P w K mg base DC "offer" 3 2 I_offer) (hg:∀ ds:List D,ds.length=3->gr ds=.no\/∀ q,au (bR I_offer_with_order I_offer q (ar 7 ds))=gr ds) (Fn:FUz K "stepped_over" 48 f fd):FnF P w K mg base 4 f fd ["plans","old","new"] gr:=by
 have hN:(["plans","old","new","further","state","plan","wiped"]:List Str).Nodup:=by decide
 refine Fn.okA mL (k:=3) (g:=bR I_offer_with_order I_offer) hg fun cdv A outer s H E hr=>?_
 have hu:=hr.units
 have h_1:PSF (kQ (CXo P w) P w K mg base ["plans","old","new","further","state","plan","wiped"] "stepped_over" (am (top 48)) f cdv A outer s H E) ((ck (top 48)).getD 1 (.Pass ⟨0,0,0,0⟩)) (cb I_offer_with_order I_offer):=(qK PassesOwn.leaving rfl (xP (ae at0)) (yt rfl (iX 4 hN (iX 5 hN ur))) (ag (bX at6 hN (aM (ae at4) ak)) (ag (gZ (Eh (aM (ae at4) ak)) (ag (nO (nM 3 bG hr (aa (bV (aa kT (aa (ae at6) ad))) (aa (ae at5) (aa (bV (aa (ba (l:=[115,97,121]) rfl (by decide)) (aa (ae at2) ad))) ad))))) ax) ax) (ag (gZ (oq hu (xD (tW (ae at6)) (ba (l:=[32]) rfl (by decide)) (ae at1)) (ae at2)) (ag (nO (nM 3 tu hr (aa (bV (aa kT (aa (ae at6) ad))) (aa (ae at5) ad)))) ax) ax) ax))) (hn:=rB _))
 have h_2:PSF (kQ (CXo P w) P w K mg base ["plans","old","new","further","state","plan","wiped"] "stepped_over" (am (top 48)) f cdv A outer s H E) ((ck (top 48)).getD 2 (.Pass ⟨0,0,0,0⟩)) (dQ I_offer_with_order I_offer):=(A9 3)
 exact (BW 3 hN (xg (ag h_1 (ag h_2 ax))))
theorem zI:FnScope ["plans","number","old","new","begin","current","column"] ["plans","number","old","new","begin"] (am (top 49)):=by walk_at "s"
theorem zQ {bd aR:List D->R D} (bo:mg "len"=none) (dI:mg "range"=none) (rF:Callee P w K mg base "with_moves" 4 3 bd) (nz:Callee P w K mg base "stepped_over" 4 3 aR) (Fn:FUz K "swept" 49 f fd):FnF P w K mg base 5 f fd ["plans","number","old","new","begin"] (fun ds=>au (mE bd aR (ar 7 ds))):=by
 have hN:(["plans","number","old","new","begin","current","column"]:List Str).Nodup:=by decide
 exact Fn.okF zI (k:=4) (g:=mE bd aR) fun _ _ _ _ _ _ hr=>(ag (bX at5 hN (ae at0)) (ag (qK PassesOwn.leaving rfl (xF rfl dI (aa (ae at4) (aa (dE rfl bo (aa (ae at2) ad)) ad))) (cw 6 hN) (ag (bX at5 hN (aA nz hr (aa (aA rF hr (aa (ae at5) (aa (ae at1) (aa (ae at6) ad)))) (aa (aM (ae at2) (ae at6)) (aa (aM (ae at3) (ae at6)) ad))))) ax)) (ag (br (ae at5)) ax)))
theorem tQ:FnScope ["plans","states"] ["plans","states"] (am (top 50)):=by walk_at "s"
theorem tK (qq:mg "min"=none) (gM:Callee P w K mg base "plan_cost" 1 1 aE) (Fn:FUz K "cheapest" 50 f fd):FnF P w K mg base 3 f fd ["plans","states"] (fun ds=>au (gE aE (ar 2 ds))):=by
 refine Fn.okF tQ (k:=2) (g:=gE aE) fun _ _ _ _ _ _ hr=>?_
 have hu:=hr.units
 exact (ag (br (Bx rfl rfl qq gM hr.in1 (nT (hU (N':=["state","plans"]) (ix:=[0]) jP rfl (jt (ae at1)) (fun C s₂ H₂ fp=>(rj 1 hu (fP at0))) (fun C s₂ H₂ fp=>(CY (zO 1 hu (fP at0)))))))) ax)
theorem gj:FnScope ["number","old","new","plans"] ["number","old","new"] (am (top 51)):=by walk_at "s"
theorem gm (aU:mg "ELSEWHERE"=some (.ref a_ELSEWHERE)) (bq:lc K a_ELSEWHERE (D.tup [D.bl false,D.bl false])) (bC:mg "NO_ORDERS"=some (.ref a_NO_ORDERS)) (cC:lc K a_NO_ORDERS (D.tup [D.int 0,D.tup []])) (aY:mg "HERE_WIPED"=some (.ref a_HERE_WIPED)) (bx:lc K a_HERE_WIPED (D.tup [D.bl true,D.bl true])) (aB:mg "ELSEWHERE_WIPED"=some (.ref a_ELSEWHERE_WIPED)) (aQ:lc K a_ELSEWHERE_WIPED (D.tup [D.bl false,D.bl true])) (dc:mg "HERE"=some (.ref a_HERE)) (fo:lc K a_HERE (D.tup [D.bl true,D.bl false])) (pE:Callee P w K mg base "swept" 5 5 bw) (hZ:Callee P w K mg base "cheapest" 5 2 aH) (Fn:FUz K "plan_from_elsewhere" 51 f fd):FnF P w K mg base 6 f fd ["number","old","new"] (fun ds=>au (bO bw aH (ar 4 ds))):=by
 have hN:(["number","old","new","plans"]:List Str).Nodup:=by decide
 refine Fn.okF gj (k:=5) (g:=bO bw aH) fun _ _ _ _ _ _ hr=>?_
 have hu:=hr.units
 exact (ag (bX at3 hN (aA pE hr (aa (HL hu (aZ rfl aU bq) (aZ rfl bC cC)) (aa (ae at0) (aa (ae at1) (aa (ae at2) (aa ak ad))))))) (ag (br (aA hZ hr (aa (ae at3) (aa (bV (aa (aZ rfl aU bq) (aa (aZ rfl dc fo) (aa (aZ rfl aB aQ) (aa (aZ rfl aY bx) ad))))) ad)))) ax))
theorem jr:FnScope ["number","old","new","place","plans","right","left"] ["number","old","new","place"] (am (top 52)):=by walk_at "s"
theorem jo (dc:mg "HERE"=some (.ref a_HERE)) (fo:lc K a_HERE (D.tup [D.bl true,D.bl false])) (bC:mg "NO_ORDERS"=some (.ref a_NO_ORDERS)) (cC:lc K a_NO_ORDERS (D.tup [D.int 0,D.tup []])) (aY:mg "HERE_WIPED"=some (.ref a_HERE_WIPED)) (bx:lc K a_HERE_WIPED (D.tup [D.bl true,D.bl true])) (aB:mg "ELSEWHERE_WIPED"=some (.ref a_ELSEWHERE_WIPED)) (aQ:lc K a_ELSEWHERE_WIPED (D.tup [D.bl false,D.bl true])) (aU:mg "ELSEWHERE"=some (.ref a_ELSEWHERE)) (bq:lc K a_ELSEWHERE (D.tup [D.bl false,D.bl false])) (pE:Callee P w K mg base "swept" 5 5 bw) (hZ:Callee P w K mg base "cheapest" 5 2 aH) (Fn:FUz K "plan_from_place" 52 f fd):FnF P w K mg base 6 f fd ["number","old","new","place"] (fun ds=>au (cy bw aH (ar 7 ds))):=by
 have hN:(["number","old","new","place","plans","right","left"]:List Str).Nodup:=by decide
 refine Fn.okF jr (k:=5) (g:=cy bw aH) fun _ _ _ _ _ _ hr=>?_
 have hu:=hr.units
 exact (ag (bX at4 hN (aA pE hr (aa (HL hu (aZ rfl dc fo) (aZ rfl bC cC)) (aa (ae at0) (aa (ae at1) (aa (ae at2) (aa (ae at3) ad))))))) (ag (bX at5 hN (aA hZ hr (aa (ae at4) (aa (bV (aa (aZ rfl aU bq) (aa (aZ rfl dc fo) (aa (aZ rfl aB aQ) (aa (aZ rfl aY bx) ad))))) ad)))) (ag (bX at4 hN (aA pE hr (aa (HL hu (aZ rfl aU bq) (aZ rfl bC cC)) (aa (ae at0) (aa (cr (ae at1) cI (fb (ae at3))) (aa (cr (ae at2) cI (fb (ae at3))) (aa ak ad))))))) (ag (bX at6 hN (aA hZ hr (aa (ae at4) (aa (bV (aa (aZ rfl aU bq) (aa (aZ rfl dc fo) ad))) ad)))) (ag (br (bV (aa (bb (aM (ae at5) ak) (aM (ae at6) ak)) (aa (bb (aM (ae at5) ak) (aM (ae at6) ak)) ad)))) ax)))))
theorem ik:FnScope ["number","old","new","place","plans"] ["number","old","new","place"] (am (top 53)):=by walk_at "s"
theorem im {aW:List D->R D} (qq:mg "min"=none) (bW:Callee P w K mg base "plan_from_elsewhere" 6 3 af) (jT:Callee P w K mg base "plan_from_place" 6 4 aW) (gM:Callee P w K mg base "plan_cost" 5 1 aE) (Fn:FUz K "row_of_place_plan" 53 f fd):FnF P w K mg base 7 f fd ["number","old","new","place"] (fun ds=>au (bZ af aW aE (ar 5 ds))):=by
 have hN:(["number","old","new","place","plans"]:List Str).Nodup:=by decide
 exact Fn.okF ik (k:=6) (g:=bZ af aW aE) fun _ _ _ _ _ _ hr=>(ag (bX at4 hN (fV (jd (aa (aA jT hr (aa (ae at0) (aa (ae at1) (aa (ae at2) (aa (ae at3) ad))))) (aa (aA bW hr (aa (ae at0) (aa (ae at1) (aa (ae at2) ad)))) ad))))) (ag (br (Bx rfl rfl qq gM hr.in1 (ae at4))) ax))
theorem jQ:FnScope ["one","other","text"] ["one","other"] (am (top 36)):=by walk_at "s"
theorem jL (bo:mg "len"=none) {fI:Tok} (bH:mg "MOST_SAID"=some (.int 40 fI)) (Fn:FUz K "joined_or_none" 36 f fd):FnF P w K mg base 1 f fd ["one","other"] (fun ds=>au (cJ (ar 3 ds))):=by
 have hN:(["one","other","text"]:List Str).Nodup:=by decide
 refine Fn.okF jQ (k:=0) (g:=cJ) fun _ _ _ _ _ _ hr=>?_
 have hu:=hr.units
 exact (ag (gZ (pU hu (aM (ae at0) ak) (aM (ae at1) ak)) (ag (br uO) ax) ax) (ag (gZ (pU hu (aM (ae at0) ak) (ba (l:=[115,97,121]) rfl (by decide))) (ag (br (ae at1)) ax) ax) (ag (bX at2 hN (bb (aM (ae at0) ak) (aM (ae at1) ak))) (ag (br (xD (Iu (dE rfl bo (aa (ae at2) ad)) (eE rfl bH)) (bV (aa (ba (l:=[115,97,121]) rfl (by decide)) (aa (ae at2) ad))) uO)) ax))))
theorem rT:FnScope ["orders","short","order","both"] ["orders"] (am (top 37)):=by walk_at "s"
theorem rG {aC:List D->R D} (bo:mg "len"=none) (cm:Callee P w K mg base "check_orders" 6 1 ah) (kJ:Callee P w K mg base "joined_or_none" 6 2 aC) (Fn:FUz K "shortened" 37 f fd):FnF P w K mg base 7 f fd ["orders"] (fun ds=>au (fA ah aC (ar 4 ds))):=by
 have hN:(["orders","short","order","both"]:List Str).Nodup:=by decide
 exact Fn.okF rT (k:=6) (g:=fA ah aC) fun _ _ _ _ _ _ hr=>(ag (lF (aA cm hr (aa (ae at0) ad))) (ag (Cj 1 hN (jd ad)) (ag (qK PassesOwn.leaving rfl (jt (ae at0)) (cw 2 hN) (ag (E6 1 3 hN (xD (za (dE rfl bo (aa (ae at1) ad)) ak) (aA kJ hr (aa (aM (ae at1) (Eo ak)) (aa (ae at2) ad))) uO)) (ag (gZ (G6 (ae at3) uO) (ag (um 1 (ae at2)) ax) (ag (ER 1 (ae at3) (Eo ak)) ax)) ax))) (Ck 1 (ag (br (ae at1)) ax)))))
theorem AR:FnScope ["screen","rows","wanted","own","orders","number","row"] ["screen","rows"] (am (top 54)):=by walk_at "s"
theorem zR {aI aO:List D->R D} {ao aN:List D->R D} (dS:mg "enumerate"=none) (eD:mg "list"=none) (qO:Callee P w K mg base "check_rows" 7 2 aI) (tI:Callee P w K mg base "full_rows" 7 2 aO) (iH:Callee P w K mg base "row_of_place_plan" 7 4 ao) (bW:Callee P w K mg base "plan_from_elsewhere" 7 3 af) (tV:Callee P w K mg base "shortened" 7 1 aN) (Fn:FUz K "least" 54 f fd):FnF P w K mg base 8 f fd ["screen","rows"] (fun ds=>au (mW aI aO ao af aN (ar 7 ds))):=by
 have hN:(["screen","rows","wanted","own","orders","number","row"]:List Str).Nodup:=by decide
 refine Fn.okF AR (k:=7) (g:=mW aI aO ao af aN) fun _ _ _ _ _ _ hr=>?_
 have hu:=hr.units
 exact (ag (lF (aA qO hr (aa (ae at0) (aa (ae at1) ad)))) (ag (bX at2 hN (aA tI hr (aa (ae at0) (aa (ae at1) ad)))) (ag (bX at3 hN (aM (aM (ae at0) ak) ak)) (ag (Cj 4 hN (vQ rfl eD (aa (aM (aA iH hr (aa (ae at3) (aa (aM (aM (ae at0) ak) (ae at3)) (aa (aM (ae at2) (ae at3)) (aa (aM (aM (ae at0) ak) ak) ad))))) ak) ad))) (ag (qK PassesOwn.leaving rfl (CU rfl dS (aM (ae at0) ak)) (yt rfl (iX 5 hN (iX 6 hN ur))) (ag (gZ (pU hu (ae at5) (ae at3)) (ag (Fr 4 (aM (aA bW hr (aa (ae at5) (aa (ae at6) (aa (aM (ae at2) (ae at5)) ad)))) ak)) ax) ax) ax) (hn:=rB _)) (Ck 4 (ag (br (aA tV hr (aa (ae at4) ad))) ax)))))))
theorem BT:FnScope ["orders"] ["orders"] (am (top 35)):=by walk_at "s"
theorem C4 (yn:mg "sum"=none) (cm:Callee P w K mg base "check_orders" 6 1 ah) (gL:Callee P w K mg base "order_cost" 6 1 aV) (Fn:FUz K "cost" 35 f fd):FnF P w K mg base 7 f fd ["orders"] (fun ds=>au (pd ah aV (ar 1 ds))):=by
 exact Fn.okF BT (k:=6) (g:=pd ah aV) fun _ _ _ _ _ _ hr=>(ag (lF (aA cm hr (aa (ae at0) ad))) (ag (br (HW rfl rfl yn (aa (nT (hU (N':=["order"]) (ix:=[]) jP rfl (jt (ae at0)) (fun C s₂ H₂ fp=>(aA gL hr (aa (fP at0) ad))) (fun C s₂ H₂ fp=>mI))) ad))) ax))
theorem pB:FnScope ["screen","rows"] ["screen","rows"] (am (top 55)):=by walk_at "s"
theorem oK (sJ:Callee P w K mg base "least" 8 2 bU) (uA:Callee P w K mg base "cost" 8 1 cL) (Fn:FUz K "least_cost" 55 f fd):FnF P w K mg base 9 f fd ["screen","rows"] (fun ds=>au (eW bU cL (ar 2 ds))):=by
 exact Fn.okF pB (k:=8) (g:=eW bU cL) fun _ _ _ _ _ _ hr=>(ag (br (aA uA hr (aa (aA sJ hr (aa (ae at0) (aa (ae at1) ad))) ad))) ax)
theorem D7:FnScope ["_law_script","_law_turn","_law_screen","_law_some","_law_here","_law_rows","_law_told"] ["_law_script"] (am (top 61)):=by walk_at "s"
theorem Gx {aP bg:List D->R D} {bE bn:List D->R D} (eD:mg "list"=none) (dI:mg "range"=none) (kK:Callee P w K mg base "_law_screen_of" 9 2 aP) (pA:Callee P w K mg base "_law_orders" 9 3 bg) (nY:Callee P w K mg base "all_done" 9 2 bE) (sJ:Callee P w K mg base "least" 9 2 bU) (ko:Callee P w K mg base "least_cost" 9 2 bn) (uA:Callee P w K mg base "cost" 9 1 cL) (Fn:FUz K "law" 61 f fd):FnF P w K mg base 10 f fd ["_law_script"] (fun ds=>au (tU aP bg bE bU bn cL (ar 7 ds))):=by
 have hN:(["_law_script","_law_turn","_law_screen","_law_some","_law_here","_law_rows","_law_told"]:List Str).Nodup:=by decide
 refine Fn.okF D7 (k:=9) (g:=tU aP bg bE bU bn cL) fun _ _ _ _ _ _ hr=>?_
 have hu:=hr.units
 exact (ag (qK PassesOwn.leaving rfl (uv rfl dI (aa ak ad)) (cw 1 hN) (ag (bX at2 hN (aA kK hr (aa (ae at0) (aa (jc ak (ae at1)) ad)))) (ag (bX at3 hN (aA pA hr (aa (ae at0) (aa (jc ak (ae at1)) (aa (ae at2) ad))))) (ag (bX at4 hN (aA nY hr (aa (ae at2) (aa (ae at3) ad)))) (ag (bX at5 hN (zK rfl eD (aa (aM (ae at4) ak) ad))) (ag (bX at6 hN (aA sJ hr (aa (ae at2) (aa (ae at5) ad)))) (ag (gZ (pj (jf (za (aA ko hr (aa (ae at2) (aa (ae at5) ad))) (aA uA hr (aa (ae at3) ad))) (fG (pU hu (aA uA hr (aa (ae at6) ad)) (aA ko hr (aa (ae at2) (aa (ae at5) ad))))))) (ag (br kT) ax) ax) (ag (gZ (pU hu (aM (aA nY hr (aa (ae at2) (aa (ae at6) ad))) ak) (aM (ae at4) ak)) (ag (br kT) ax) ax) ax)))))))) (ag (br kT) ax))
end
theorem E2 {w:World} {K:PySem.W.Frag} {mg:Str->Option Value} {fa:Addr} (hfa:mg "law"=some (.ref fa)) (lv:mg "all"=none) (qL:mg "bool"=none) (qE:mg "dict"=none) (dS:mg "enumerate"=none) (tJ:mg "int"=none) (aw:mg "isinstance"=none) (bo:mg "len"=none) (eD:mg "list"=none) (qq:mg "min"=none) (dI:mg "range"=none) (xC:mg "str"=none) (yn:mg "sum"=none) (cf:mg "tuple"=none) (aU:∃ a,mg "ELSEWHERE"=some (.ref a)/\lc K a (D.tup [D.bl false,D.bl false])) (aB:∃ a,mg "ELSEWHERE_WIPED"=some (.ref a)/\lc K a (D.tup [D.bl false,D.bl true])) (dU:∃ t,mg "GO_COST"=some (.int 2 t)) (dc:∃ a,mg "HERE"=some (.ref a)/\lc K a (D.tup [D.bl true,D.bl false])) (aY:∃ a,mg "HERE_WIPED"=some (.ref a)/\lc K a (D.tup [D.bl true,D.bl true])) (bI:∃ t,mg "MOST_ROWS"=some (.int 12 t)) (bH:∃ t,mg "MOST_SAID"=some (.int 40 t)) (bz:∃ t,mg "MOST_WIDTH"=some (.int 40 t)) (bC:∃ a,mg "NO_ORDERS"=some (.ref a)/\lc K a (D.tup [D.int 0,D.tup []])) (cz:∃ t,mg "WIPE_COST"=some (.int 1 t)) (mD:PySem.W.nsIn K mainGlobals "NoOrder"=some (some (.ref bf))) (nc:PySem.W.excIn K bf [.type "ValueError",.type "Exception",.type "BaseException",.type "object"] "ValueError.__new__"=true) (pC:PySem.W.nsIn K mainGlobals "NoRoom"=some (some (.ref aX))) (pV:PySem.W.excIn K aX [.type "ValueError",.type "Exception",.type "BaseException",.type "object"] "ValueError.__new__"=true) (jM:PySem.W.nsIn K mainGlobals "NoScreen"=some (some (.ref bj))) (jW:PySem.W.excIn K bj [.type "ValueError",.type "Exception",.type "BaseException",.type "object"] "ValueError.__new__"=true)
 (h57:∃ f fd,FUz K "_law_cell" 57 f fd/\mg "_law_cell"=some (.ref f))
 (h58:∃ f fd,FUz K "_law_pick" 58 f fd/\mg "_law_pick"=some (.ref f))
 (h60:∃ f fd,FUz K "_law_screen_of" 60 f fd/\mg "_law_screen_of"=some (.ref f))
 (h59:∃ f fd,FUz K "_law_orders" 59 f fd/\mg "_law_orders"=some (.ref f))
 (h6:∃ f fd,FUz K "is_whole" 6 f fd/\mg "is_whole"=some (.ref f))
 (h7:∃ f fd,FUz K "is_within" 7 f fd/\mg "is_within"=some (.ref f))
 (h8:∃ f fd,FUz K "is_plain" 8 f fd/\mg "is_plain"=some (.ref f))
 (h12:∃ f fd,FUz K "are_full_rows" 12 f fd/\mg "are_full_rows"=some (.ref f))
 (h13:∃ f fd,FUz K "is_place" 13 f fd/\mg "is_place"=some (.ref f))
 (h14:∃ f fd,FUz K "is_screen" 14 f fd/\mg "is_screen"=some (.ref f))
 (h15:∃ f fd,FUz K "check_screen" 15 f fd/\mg "check_screen"=some (.ref f))
 (h23:∃ f fd,FUz K "is_say" 23 f fd/\mg "is_say"=some (.ref f))
 (h24:∃ f fd,FUz K "is_go" 24 f fd/\mg "is_go"=some (.ref f))
 (h25:∃ f fd,FUz K "is_order" 25 f fd/\mg "is_order"=some (.ref f))
 (h26:∃ f fd,FUz K "check_order" 26 f fd/\mg "check_order"=some (.ref f))
 (h27:∃ f fd,FUz K "check_orders" 27 f fd/\mg "check_orders"=some (.ref f))
 (h28:∃ f fd,FUz K "with_row_at_place" 28 f fd/\mg "with_row_at_place"=some (.ref f))
 (h29:∃ f fd,FUz K "after_say" 29 f fd/\mg "after_say"=some (.ref f))
 (h30:∃ f fd,FUz K "after_go" 30 f fd/\mg "after_go"=some (.ref f))
 (h31:∃ f fd,FUz K "after_wipe" 31 f fd/\mg "after_wipe"=some (.ref f))
 (h32:∃ f fd,FUz K "after_order" 32 f fd/\mg "after_order"=some (.ref f))
 (h33:∃ f fd,FUz K "all_done" 33 f fd/\mg "all_done"=some (.ref f))
 (h16:∃ f fd,FUz K "are_rows" 16 f fd/\mg "are_rows"=some (.ref f))
 (h17:∃ f fd,FUz K "check_rows" 17 f fd/\mg "check_rows"=some (.ref f))
 (h18:∃ f fd,FUz K "full_rows" 18 f fd/\mg "full_rows"=some (.ref f))
 (h34:∃ f fd,FUz K "order_cost" 34 f fd/\mg "order_cost"=some (.ref f))
 (h44:∃ f fd,FUz K "plan_cost" 44 f fd/\mg "plan_cost"=some (.ref f))
 (h45:∃ f fd,FUz K "offer" 45 f fd/\mg "offer"=some (.ref f))
 (h46:∃ f fd,FUz K "offer_with_order" 46 f fd/\mg "offer_with_order"=some (.ref f))
 (h47:∃ f fd,FUz K "with_moves" 47 f fd/\mg "with_moves"=some (.ref f))
 (h48:∃ f fd,FUz K "stepped_over" 48 f fd/\mg "stepped_over"=some (.ref f))
 (h49:∃ f fd,FUz K "swept" 49 f fd/\mg "swept"=some (.ref f))
 (h50:∃ f fd,FUz K "cheapest" 50 f fd/\mg "cheapest"=some (.ref f))
 (h51:∃ f fd,FUz K "plan_from_elsewhere" 51 f fd/\mg "plan_from_elsewhere"=some (.ref f))
 (h52:∃ f fd,FUz K "plan_from_place" 52 f fd/\mg "plan_from_place"=some (.ref f))
 (h53:∃ f fd,FUz K "row_of_place_plan" 53 f fd/\mg "row_of_place_plan"=some (.ref f))
 (h36:∃ f fd,FUz K "joined_or_none" 36 f fd/\mg "joined_or_none"=some (.ref f))
 (h37:∃ f fd,FUz K "shortened" 37 f fd/\mg "shortened"=some (.ref f))
 (h54:∃ f fd,FUz K "least" 54 f fd/\mg "least"=some (.ref f))
 (h35:∃ f fd,FUz K "cost" 35 f fd/\mg "cost"=some (.ref f))
 (h55:∃ f fd,FUz K "least_cost" 55 f fd/\mg "least_cost"=some (.ref f))
 (h61:∃ f fd,FUz K "law" 61 f fd/\mg "law"=some (.ref f)) :
  ∃ fd:FuncData,(∀ (s:Shared) (u:Value),BindsTo s fd ⟨[u],[]⟩ [("_law_script",u)])/\∀ base:Heap,K.In base->base.Ns mainGlobals mg->FnF P w K mg base 10 fa fd ["_law_script"] Au:=by
 obtain ⟨a_ELSEWHERE,aU,bq⟩:=aU
 obtain ⟨a_ELSEWHERE_WIPED,aB,aQ⟩:=aB
 obtain ⟨qe,dU⟩:=dU
 obtain ⟨a_HERE,dc,fo⟩:=dc
 obtain ⟨a_HERE_WIPED,aY,bx⟩:=aY
 obtain ⟨fy,bI⟩:=bI
 obtain ⟨fI,bH⟩:=bH
 obtain ⟨eK,bz⟩:=bz
 obtain ⟨a_NO_ORDERS,bC,cC⟩:=bC
 obtain ⟨mY,cz⟩:=cz
 obtain ⟨f57,d57,F57⟩:=h57
 obtain ⟨f58,d58,F58⟩:=h58
 obtain ⟨f60,d60,F60⟩:=h60
 obtain ⟨f59,d59,F59⟩:=h59
 obtain ⟨f6,d6,F6⟩:=h6
 obtain ⟨f7,d7,F7⟩:=h7
 obtain ⟨f8,d8,F8⟩:=h8
 obtain ⟨f12,d12,F12⟩:=h12
 obtain ⟨f13,d13,F13⟩:=h13
 obtain ⟨f14,d14,F14⟩:=h14
 obtain ⟨f15,d15,F15⟩:=h15
 obtain ⟨f23,d23,F23⟩:=h23
 obtain ⟨f24,d24,F24⟩:=h24
 obtain ⟨f25,d25,F25⟩:=h25
 obtain ⟨f26,d26,F26⟩:=h26
 obtain ⟨f27,d27,F27⟩:=h27
 obtain ⟨f28,d28,F28⟩:=h28
 obtain ⟨f29,d29,F29⟩:=h29
 obtain ⟨f30,d30,F30⟩:=h30
 obtain ⟨f31,d31,F31⟩:=h31
 obtain ⟨f32,d32,F32⟩:=h32
 obtain ⟨f33,d33,F33⟩:=h33
 obtain ⟨f16,d16,F16⟩:=h16
 obtain ⟨f17,d17,F17⟩:=h17
 obtain ⟨f18,d18,F18⟩:=h18
 obtain ⟨f34,d34,F34⟩:=h34
 obtain ⟨f44,d44,F44⟩:=h44
 obtain ⟨f45,d45,F45⟩:=h45
 obtain ⟨f46,d46,F46⟩:=h46
 obtain ⟨f47,d47,F47⟩:=h47
 obtain ⟨f48,d48,F48⟩:=h48
 obtain ⟨f49,d49,F49⟩:=h49
 obtain ⟨f50,d50,F50⟩:=h50
 obtain ⟨f51,d51,F51⟩:=h51
 obtain ⟨f52,d52,F52⟩:=h52
 obtain ⟨f53,d53,F53⟩:=h53
 obtain ⟨f36,d36,F36⟩:=h36
 obtain ⟨f37,d37,F37⟩:=h37
 obtain ⟨f54,d54,F54⟩:=h54
 obtain ⟨f35,d35,F35⟩:=h35
 obtain ⟨f55,d55,F55⟩:=h55
 obtain ⟨f61,d61,F61⟩:=h61
 have e:fa=f61:=by
  have:=hfa.symm.trans F61.2
  injection this with this
  injection this
 subst e
 refine ⟨d61,fun s u=>?_,fun base kb nb=>?_⟩
 ·obtain ⟨oc,od,kV,doc,pm,an,cdv,ct,osl,rfl,lk,hcd⟩:=F61.1.ex
  exact .of_eq rfl
 ·have fq:=zl (x:="NoOrder") kb nb mD nc
  have ia:=zl (x:="NoRoom") kb nb pC pV
  have dG:=zl (x:="NoScreen") kb nb jM jW
  have k57:=F57.1.callee F57.2 ((tH (P:=P) (w:=w) (base:=base) bo F57.1).to (tfr (F:=zN))) (by walk_at "2")
  have k58:=F58.1.callee F58.2 ((tR k57 F58.1).to (tfr (F:=cH))) (by walk_at "3")
  have k60:=F60.1.callee F60.2 ((kU dI cf k58 F60.1).to (tfr (F:=wY))) (by walk_at "2")
  have k59:=F59.1.callee F59.2 ((oQ bo k58 F59.1).to (tfr (F:=sg))) (by walk_at "3")
  have k6:=F6.1.callee F6.2 ((sV (P:=P) (w:=w) (base:=base) qL tJ aw F6.1).to tD) (by walk_at "1")
  have k7:=F7.1.callee F7.2 ((rQ k6 F7.1).to qh) (by walk_at "3")
  have k8:=F8.1.callee F8.2 ((sK (P:=P) (w:=w) (base:=base) lv aw xC F8.1).to ss) (by walk_at "1")
  have k12:=F12.1.callee F12.2 ((kS lv aw bo cf bI k8 F12.1).to kO) (by walk_at "2")
  have k13:=F13.1.callee F13.2 ((sS aw bo cf k7 F13.1).to sE) (by walk_at "3")
  have k14:=F14.1.callee F14.2 ((rR aw bo cf bz (k7.mono 3) (k12.mono 3) k13 F14.1).to rP) (by walk_at "1")
  have k15:=F15.1.callee F15.2 ((mz dG k14 F15.1).to lQ) (by walk_at "1")
  have k23:=F23.1.callee F23.2 ((xy bo bH k8 F23.1).to (tfr (F:=Hn))) (by walk_at "1")
  have k24:=F24.1.callee F24.2 ((Ak bo bI bz k7 F24.1).to (tfr (F:=goG))) (by walk_at "1")
  have k25:=F25.1.callee F25.2 ((sH aw cf (k23.mono 3) k24 F25.1).to (tfr (F:=IT))) (by walk_at "1")
  have k26:=F26.1.callee F26.2 ((nA fq k25 F26.1).to (tfr (F:=ckG _))) (by walk_at "1")
  have k27:=F27.1.callee F27.2 ((lL aw eD fq k26 F27.1).to (tfr (F:=CD _))) (by walk_at "1")
  have k28:=F28.1.callee F28.2 ((ij (P:=P) (w:=w) (base:=base) F28.1).to (tfr (F:=wrG))) (by walk_at "3")
  have k29:=F29.1.callee F29.2 ((qJ bo ia k28 F29.1).to (tfr (F:=asG _))) (by walk_at "2")
  have k30:=F30.1.callee F30.2 ((ua (P:=P) (w:=w) (base:=base) bo ia F30.1).to (tfr (F:=agG _))) (by walk_at "3")
  have k31:=F31.1.callee F31.2 ((oA k28 F31.1).to (tfr (F:=awG))) (by walk_at "1")
  have k32:=F32.1.callee F32.2 ((ny k29 (k30.mono 2) k31 F32.1).to (tfr (F:=aoG _))) (by walk_at "2")
  have k33:=F33.1.callee F33.2 ((tT (k15.mono 6) k27 (k32.mono 6) F33.1).to (tfr (F:=adG _ _ _))) (by walk_at "2")
  have k16:=F16.1.callee F16.2 ((tY lv aw bo eD k15 (k8.mono 5) F16.1).to su) (by walk_at "2")
  have k17:=F17.1.callee F17.2 ((pX dG k16 F17.1).to oP) (by walk_at "2")
  have k18:=F18.1.callee F18.2 ((qw (P:=P) (w:=w) (base:=base) bo F18.1).to qx) (by walk_at "2")
  have k34:=F34.1.callee F34.2 ((pG (P:=P) (w:=w) (base:=base) bo dU cz F34.1).to (tfr (F:=ocG))) (by walk_at "1")
  have k44:=F44.1.callee F44.2 ((qR (P:=P) (w:=w) (base:=base) F44.1).to (tfr (F:=pcF))) (by walk_at "1")
  have k45:=yr F45.1 F45.2 (Ar (P:=P) (w:=w) (mg:=mg) (base:=base) k44 AK F45.1) (by walk_at "3") (n:=2) rfl
  have k46:=yr F46.1 F46.2 (iI (P:=P) (w:=w) (mg:=mg) (base:=base) (k34.mono 2) k45 iE F46.1) (by walk_at "4") (n:=3) rfl
  have k47:=F47.1.callee F47.2 (pR (P:=P) (w:=w) (base:=base) qE aU bq dc fo aY bx aB aQ k46 oe F47.1) (by walk_at "3")
  have k48:=F48.1.callee F48.2 (mG (P:=P) (w:=w) (base:=base) k46 (k45.mono 3) mh F48.1) (by walk_at "3")
  have k49:=F49.1.callee F49.2 ((zQ bo dI k47 k48 F49.1).to (tfr (F:=swF))) (by walk_at "5")
  have k50:=F50.1.callee F50.2 ((tK (P:=P) (w:=w) (base:=base) qq k44 F50.1).to (tfr (F:=chF))) (by walk_at "2")
  have k51:=F51.1.callee F51.2 ((gm aU bq bC cC aY bx aB aQ dc fo k49 (k50.mono 5) F51.1).to (tfr (F:=peF))) (by walk_at "3")
  have k52:=F52.1.callee F52.2 ((jo dc fo bC cC aY bx aB aQ aU bq k49 (k50.mono 5) F52.1).to (tfr (F:=ppF))) (by walk_at "4")
  have k53:=F53.1.callee F53.2 ((im qq k51 k52 (k44.mono 5) F53.1).to (tfr (F:=rpF))) (by walk_at "4")
  have k36:=F36.1.callee F36.2 ((jL (P:=P) (w:=w) (base:=base) bo bH F36.1).to (tfr (F:=jnG))) (by walk_at "2")
  have k37:=F37.1.callee F37.2 ((rG bo k27 (k36.mono 6) F37.1).to (tfr (F:=shG _))) (by walk_at "1")
  have k54:=F54.1.callee F54.2 ((zR dS eD k17 (k18.mono 7) k53 (k51.mono 7) k37 F54.1).to (tfr (F:=leF _))) (by walk_at "2")
  have k35:=F35.1.callee F35.2 ((C4 yn k27 (k34.mono 6) F35.1).to (tfr (F:=coG _))) (by walk_at "1")
  have k55:=F55.1.callee F55.2 ((oK k54 (k35.mono 8) F55.1).to (tfr (F:=nZ _))) (by walk_at "2")
  exact (Gx eD dI (k60.mono 9) (k59.mono 9) (k33.mono 9) (k54.mono 9) k55 (k35.mono 9) F61.1).to (E1 H8)
end G22
namespace PySem.W.Fast
theorem tw4987153584386186411:True:=⟨⟩
theorem tw10713359617191561886:True:=⟨⟩
theorem tw18026044581462732192:True:=⟨⟩
theorem tw10993482959109197504:True:=⟨⟩
theorem tw7818509064497571299:True:=⟨⟩
theorem tw5558913084399207396:True:=⟨⟩
theorem tw10829985629772541807:True:=⟨⟩
theorem tw14418486488517582767:True:=⟨⟩
theorem tw9169152199988339737:True:=⟨⟩
theorem tw6561776789652561210:True:=⟨⟩
theorem tw1288965791319673818:True:=⟨⟩
theorem tw7636501000272466043:True:=⟨⟩
theorem tw15912017712516740315:True:=⟨⟩
theorem tw8762533679396241183:True:=⟨⟩
end PySem.W.Fast
open PySem PySem.W PyProof.Rows
set_option maxRecDepth 100000 in
set_option maxHeartbeats 0 in
theorem PySem.Challenge.cw_screenlines_k22_whole_least_by_orders_holds : PySem.Challenge.rw_screenlines_k22_whole_least_by_orders.Holds := by
 w_on;o_law;k_head;(case hw=>w_witness2)
 k_fill
 refine Q.Lg (l:=PySem.Challenge.rw_screenlines_k22_whole_least_by_orders) (L:=10) ⟨rfl,by decide,by decide⟩ rfl rfl (fun w h Y=>PySem.W.kIn_of Y) ?F
 case F=>
  intro w mg fa h KX G hmg
  have lv:mg "all"=none:=PySem.W.mg_none_of KX G (by k_is)
  have qL:mg "bool"=none:=PySem.W.mg_none_of KX G (by k_is)
  have qE:mg "dict"=none:=PySem.W.mg_none_of KX G (by k_is)
  have dS:mg "enumerate"=none:=PySem.W.mg_none_of KX G (by k_is)
  have tJ:mg "int"=none:=PySem.W.mg_none_of KX G (by k_is)
  have aw:mg "isinstance"=none:=PySem.W.mg_none_of KX G (by k_is)
  have bo:mg "len"=none:=PySem.W.mg_none_of KX G (by k_is)
  have eD:mg "list"=none:=PySem.W.mg_none_of KX G (by k_is)
  have qq:mg "min"=none:=PySem.W.mg_none_of KX G (by k_is)
  have dI:mg "range"=none:=PySem.W.mg_none_of KX G (by k_is)
  have xC:mg "str"=none:=PySem.W.mg_none_of KX G (by k_is)
  have yn:mg "sum"=none:=PySem.W.mg_none_of KX G (by k_is)
  have cf:mg "tuple"=none:=PySem.W.mg_none_of KX G (by k_is)
  have aU:=Q.lY (x:="ELSEWHERE") KX G (by k_is) (Q.jV (vs:=[L2.V.bl false,L2.V.bl false]) (by k_is) (by decide) (.cons rfl (.cons rfl .nil)) (fun _=>(.cons (.bl _) (.cons (.bl _) .nil))))
  have aB:=Q.lY (x:="ELSEWHERE_WIPED") KX G (by k_is) (Q.jV (vs:=[L2.V.bl false,L2.V.bl true]) (by k_is) (by decide) (.cons rfl (.cons rfl .nil)) (fun _=>(.cons (.bl _) (.cons (.bl _) .nil))))
  have dU:∃ t,mg "GO_COST"=some (.int 2 t):=⟨_,PySem.W.mg_of KX G (by k_is)⟩
  have dc:=Q.lY (x:="HERE") KX G (by k_is) (Q.jV (vs:=[L2.V.bl true,L2.V.bl false]) (by k_is) (by decide) (.cons rfl (.cons rfl .nil)) (fun _=>(.cons (.bl _) (.cons (.bl _) .nil))))
  have aY:=Q.lY (x:="HERE_WIPED") KX G (by k_is) (Q.jV (vs:=[L2.V.bl true,L2.V.bl true]) (by k_is) (by decide) (.cons rfl (.cons rfl .nil)) (fun _=>(.cons (.bl _) (.cons (.bl _) .nil))))
  have bI:∃ t,mg "MOST_ROWS"=some (.int 12 t):=⟨_,PySem.W.mg_of KX G (by k_is)⟩
  have bH:∃ t,mg "MOST_SAID"=some (.int 40 t):=⟨_,PySem.W.mg_of KX G (by k_is)⟩
  have bz:∃ t,mg "MOST_WIDTH"=some (.int 40 t):=⟨_,PySem.W.mg_of KX G (by k_is)⟩
  have bC:=Q.lY (x:="NO_ORDERS") KX G (by k_is) (Q.jV (vs:=[L2.V.int 0,L2.V.ref _]) (by k_is) (by decide) (.cons ⟨_,rfl⟩ (.cons rfl .nil)) (fun _=>(.cons (.int _) (.cons (Q.jV (vs:=[]) (by k_is) (by decide) .nil (fun _=>.nil) _) .nil))))
  have cz:∃ t,mg "WIPE_COST"=some (.int 1 t):=⟨_,PySem.W.mg_of KX G (by k_is)⟩
  have h57:=Q.bc (x:="_law_cell") (st:=G22.top 57) KX G (by k_is) (by k_is) (by k_is) (by k_is)
  have h58:=Q.bc (x:="_law_pick") (st:=G22.top 58) KX G (by k_is) (by k_is) (by k_is) (by k_is)
  have h60:=Q.bc (x:="_law_screen_of") (st:=G22.top 60) KX G (by k_is) (by k_is) (by k_is) (by k_is)
  have h59:=Q.bc (x:="_law_orders") (st:=G22.top 59) KX G (by k_is) (by k_is) (by k_is) (by k_is)
  have h6:=Q.bc (x:="is_whole") (st:=G22.top 6) KX G (by k_is) (by k_is) (by k_is) (by k_is)
  have h7:=Q.bc (x:="is_within") (st:=G22.top 7) KX G (by k_is) (by k_is) (by k_is) (by k_is)
  have h8:=Q.bc (x:="is_plain") (st:=G22.top 8) KX G (by k_is) (by k_is) (by k_is) (by k_is)
  have h12:=Q.bc (x:="are_full_rows") (st:=G22.top 12) KX G (by k_is) (by k_is) (by k_is) (by k_is)
  have h13:=Q.bc (x:="is_place") (st:=G22.top 13) KX G (by k_is) (by k_is) (by k_is) (by k_is)
  have h14:=Q.bc (x:="is_screen") (st:=G22.top 14) KX G (by k_is) (by k_is) (by k_is) (by k_is)
  have h15:=Q.bc (x:="check_screen") (st:=G22.top 15) KX G (by k_is) (by k_is) (by k_is) (by k_is)
  have h23:=Q.bc (x:="is_say") (st:=G22.top 23) KX G (by k_is) (by k_is) (by k_is) (by k_is)
  have h24:=Q.bc (x:="is_go") (st:=G22.top 24) KX G (by k_is) (by k_is) (by k_is) (by k_is)
  have h25:=Q.bc (x:="is_order") (st:=G22.top 25) KX G (by k_is) (by k_is) (by k_is) (by k_is)
  have h26:=Q.bc (x:="check_order") (st:=G22.top 26) KX G (by k_is) (by k_is) (by k_is) (by k_is)
  have h27:=Q.bc (x:="check_orders") (st:=G22.top 27) KX G (by k_is) (by k_is) (by k_is) (by k_is)
  have h28:=Q.bc (x:="with_row_at_place") (st:=G22.top 28) KX G (by k_is) (by k_is) (by k_is) (by k_is)
  have h29:=Q.bc (x:="after_say") (st:=G22.top 29) KX G (by k_is) (by k_is) (by k_is) (by k_is)
  have h30:=Q.bc (x:="after_go") (st:=G22.top 30) KX G (by k_is) (by k_is) (by k_is) (by k_is)
  have h31:=Q.bc (x:="after_wipe") (st:=G22.top 31) KX G (by k_is) (by k_is) (by k_is) (by k_is)
  have h32:=Q.bc (x:="after_order") (st:=G22.top 32) KX G (by k_is) (by k_is) (by k_is) (by k_is)
  have h33:=Q.bc (x:="all_done") (st:=G22.top 33) KX G (by k_is) (by k_is) (by k_is) (by k_is)
  have h16:=Q.bc (x:="are_rows") (st:=G22.top 16) KX G (by k_is) (by k_is) (by k_is) (by k_is)
  have h17:=Q.bc (x:="check_rows") (st:=G22.top 17) KX G (by k_is) (by k_is) (by k_is) (by k_is)
  have h18:=Q.bc (x:="full_rows") (st:=G22.top 18) KX G (by k_is) (by k_is) (by k_is) (by k_is)
  have h34:=Q.bc (x:="order_cost") (st:=G22.top 34) KX G (by k_is) (by k_is) (by k_is) (by k_is)
  have h44:=Q.bc (x:="plan_cost") (st:=G22.top 44) KX G (by k_is) (by k_is) (by k_is) (by k_is)
  have h45:=Q.bc (x:="offer") (st:=G22.top 45) KX G (by k_is) (by k_is) (by k_is) (by k_is)
  have h46:=Q.bc (x:="offer_with_order") (st:=G22.top 46) KX G (by k_is) (by k_is) (by k_is) (by k_is)
  have h47:=Q.bc (x:="with_moves") (st:=G22.top 47) KX G (by k_is) (by k_is) (by k_is) (by k_is)
  have h48:=Q.bc (x:="stepped_over") (st:=G22.top 48) KX G (by k_is) (by k_is) (by k_is) (by k_is)
  have h49:=Q.bc (x:="swept") (st:=G22.top 49) KX G (by k_is) (by k_is) (by k_is) (by k_is)
  have h50:=Q.bc (x:="cheapest") (st:=G22.top 50) KX G (by k_is) (by k_is) (by k_is) (by k_is)
  have h51:=Q.bc (x:="plan_from_elsewhere") (st:=G22.top 51) KX G (by k_is) (by k_is) (by k_is) (by k_is)
  have h52:=Q.bc (x:="plan_from_place") (st:=G22.top 52) KX G (by k_is) (by k_is) (by k_is) (by k_is)
  have h53:=Q.bc (x:="row_of_place_plan") (st:=G22.top 53) KX G (by k_is) (by k_is) (by k_is) (by k_is)
  have h36:=Q.bc (x:="joined_or_none") (st:=G22.top 36) KX G (by k_is) (by k_is) (by k_is) (by k_is)
  have h37:=Q.bc (x:="shortened") (st:=G22.top 37) KX G (by k_is) (by k_is) (by k_is) (by k_is)
  have h54:=Q.bc (x:="least") (st:=G22.top 54) KX G (by k_is) (by k_is) (by k_is) (by k_is)
  have h35:=Q.bc (x:="cost") (st:=G22.top 35) KX G (by k_is) (by k_is) (by k_is) (by k_is)
  have h55:=Q.bc (x:="least_cost") (st:=G22.top 55) KX G (by k_is) (by k_is) (by k_is) (by k_is)
  have h61:=Q.bc (x:="law") (st:=G22.top 61) KX G (by k_is) (by k_is) (by k_is) (by k_is)
  refine' G22.E2 (P:=_) (w:=w) (K:=L2.KOf KX) hmg lv qL qE dS tJ aw bo eD qq dI xC yn cf aU aB dU dc aY bI bH bz bC cz ?mD ?nc ?pC ?pV ?jM ?jW h57 h58 h60 h59 h6 h7 h8 h12 h13 h14 h15 h23 h24 h25 h26 h27 h28 h29 h30 h31 h32 h33 h16 h17 h18 h34 h44 h45 h46 h47 h48 h49 h50 h51 h52 h53 h36 h37 h54 h35 h55 h61
  all_goals (try dsimp only [L2.KOf])
  (case mD=>k_is)
  (case pC=>k_is)
  (case jM=>k_is)
  (case nc=>k_exc)
  (case pV=>k_exc)
  (case jW=>k_exc)
end
end
