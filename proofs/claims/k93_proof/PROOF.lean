import PyProof.Rows.All
import Wide.All
import OpenK.AllK
import Wide.FinOn
import Lean
import PyProof.EqAt
import PyProof.EqKinds
import PyProof.TupleCall
import PyProof.NeKinds
import KE.KDictOf
import PyProof.Rows.TupDisplay
import PyProof.DictItems
import KE.KPairComp
import PyProof.Draws
import KE.KTupSum
import KE.KIntText
import PyProof.Rows.Range3
import PyProof.Rows.FStr
import PyProof.StrCalls2
import PyProof.StrLawsTight
import PyProof.StrLawsIn
import PyProof.StrCalls
import KE.KLam
import KE.KMinKey
import PyProof.Rows.RuleN_abs
import PyProof.Rows.StrCut
import PySem.Challenge.RW_screenlines_k93_whole_costs_held
set_option Elab.async false
set_option linter.all false
set_option maxRecDepth 100000
noncomputable section
variable {us its:List Value} {x y qual y0 y1:Str} {u cdv oc:Value} {a b it p C f q av bC a_ELSEWHERE a_HERE a_HERE_WIPED a_ELSEWHERE_WIPED a_NO_ORDERS bG:Addr} {P:Program} {h h':Heap} {t' i j k kt J:Nat} {ch fp:List Addr} {E:Value->Shared->Prop} {s' s:Shared} {pos:Pos} {pins:List (Addr×Obj)} {es elts:List Expr} {iter:Expr} {mA:Str->Option Value} {fd:FuncData} {ps loose:List Str} {scope:Scope} {an od:Option Addr} {osl:Array (Option Value)} {st:Stmt} {ks ix old:List Nat} {neg fz:Bool}
namespace L2
open PySem PySem.Spec PyProof.Rows
noncomputable abbrev Key:=Sum Int Str
noncomputable def F9:Key->Value->Bool
 | .inl k,v=>Value.isInt k v
 | .inr x,v=>Value.isStrOf x v
noncomputable def Kz (w:World):Key->Int
 | .inl k=>hashInt k
 | .inr x=>hashStr w x
theorem bS:∀ {k:Key} {v:Value},F9 k v=true->(∃ i t,k=Sum.inl i/\v=Value.int i t)\/(∃ x t,k=Sum.inr x/\v=Value.str x t)
 | .inl i,v,h=>by
  obtain ⟨t,e⟩:=Value.isInt_shape (k:=i) (v:=v) h
  exact .inl ⟨i,t,rfl,e⟩
 | .inr x,v,h=>by
  obtain ⟨t,e⟩:=Value.isStrOf_shape (x:=x) (v:=v) h
  exact .inr ⟨x,t,rfl,e⟩
theorem Ge (a b:Int):decide ((Sum.inl a:Key)=Sum.inl b)=(a==b):=by
 by_cases e:a=b
 ·subst e;simp
 ·have h : ¬ (Sum.inl a:Key)=Sum.inl b:=fun q=>e (Sum.inl.inj q)
  rw [decide_eq_false h]
  exact (beq_eq_false_iff_ne.mpr e).symm
theorem Gw (a b:Str):decide ((Sum.inr a:Key)=Sum.inr b)=decide (a=b):=by
 by_cases e:a=b
 ·subst e;simp
 ·have h : ¬ (Sum.inr a:Key)=Sum.inr b:=fun q=>e (Sum.inr.inj q)
  rw [decide_eq_false h,decide_eq_false e]
theorem FG (a:Int) (b:Str):decide ((Sum.inl a:Key)=Sum.inr b)=false:=decide_eq_false (fun q=>nomatch q)
theorem Fy (a:Str) (b:Int):decide ((Sum.inr a:Key)=Sum.inl b)=false:=decide_eq_false (fun q=>nomatch q)
noncomputable def rD (prog:Program) (w:World):PySem.KeyKind prog w Key where
 is:=F9
 hash:=Kz w
 inj:=fun v a b ha hb=>by
  rcases bS ha with ⟨i,t,rfl,rfl⟩|⟨x,t,rfl,rfl⟩
  ·rcases bS hb with ⟨j,u,rfl,e⟩|⟨y,u,rfl,e⟩
   ·injection e with e1 _;rw [e1]
   ·exact nomatch e
  ·rcases bS hb with ⟨j,u,rfl,e⟩|⟨y,u,rfl,e⟩
   ·exact nomatch e
   ·injection e with e1 _;rw [e1]
 byValue:=fun k v h=>by
  rcases bS h with ⟨i,t,rfl,rfl⟩|⟨x,t,rfl,rfl⟩ <;> rfl
 pyHash:=fun hv h=>by
  rcases bS hv with ⟨i,t,rfl,rfl⟩|⟨x,t,rfl,rfl⟩
  ·exact wpAny_pyHash_int h
  ·exact wpAny_pyHash_str h
 eqBool:=fun hu hv h=>by
  rcases bS hu with ⟨i,t,rfl,rfl⟩|⟨x,t,rfl,rfl⟩
  ·rcases bS hv with ⟨j,u,rfl,rfl⟩|⟨y,u,rfl,rfl⟩
   ·rw [Ge] at h;exact wpAny_eqBool_int h
   ·rw [FG] at h;exact SeqAt.EqAt.int_str i t y u _ _ _ _ h
  ·rcases bS hv with ⟨j,u,rfl,rfl⟩|⟨y,u,rfl,rfl⟩
   ·rw [Fy] at h;exact SeqAt.EqAt.str_int x t j u _ _ _ _ h
   ·rw [Gw] at h;exact wpAny_eqBool_str h
 «strs»:=fun k x t v h=>by
  rcases bS h with ⟨i,u,rfl,e⟩|⟨y,u,rfl,e⟩
  ·exact nomatch e
  ·injection e with e1 _
   subst e1
   cases v <;> rfl
inductive V where
 | non|bl (b:Bool)|int (i:Int)|str (x:Str)|byt (b:Array UInt8)|flt (b:UInt64)|ref (a:Addr)|ty (n:String)
 deriving DecidableEq
noncomputable def RelV:V->Value->Prop
 | .non,u=>u=Value.none
 | .bl b,u=>u=Value.bool b
 | .int i,u=>∃ t,u=Value.int i t
 | .str x,u=>∃ t,u=Value.str x t
 | .byt b,u=>∃ t,u=Value.bytes b t
 | .flt b,u=>∃ t,u=Value.float b t
 | .ref a,u=>u=Value.ref a
 | .ty n,u=>u=Value.type n
noncomputable abbrev Vals:List V->List Value->Prop:=Paired RelV
theorem Vals.length {xs:List V} (r:Vals xs us):xs.length=us.length:=Paired.length r
theorem Vals.get:∀ {xs:List V} {us:List Value} {i:Nat} {x:V},Vals xs us->xs[i]?=some x->∃ u,us[i]?=some u/\RelV x u
 | _,_,_,_,.nil,e=>by simp at e
 | _,_,0,_,.cons r _,e=>by simp at e;subst e;exact ⟨_,rfl,r⟩
 | _,_,i+1,x,.cons _ t,e=>by
  obtain ⟨u,h1,h2⟩:=Vals.get (i:=i) (x:=x) t (by simpa using e)
  exact ⟨u,by simpa using h1,h2⟩
theorem Vals.set {x:V} (r:RelV x u):∀ {xs:List V} {us:List Value} (i:Nat),Vals xs us->Vals (xs.set i x) (us.set i u)
 | _,_,_,.nil=>.nil
 | _,_,0,.cons _ t=>.cons r t
 | _,_,i+1,.cons q t=>.cons q (Vals.set r i t)
theorem Vals.append:∀ {xs ys:List V} {us ws:List Value},Vals xs us->Vals ys ws->Vals (xs++ys) (us++ws)
 | _,_,_,_,.nil,s=>s
 | _,_,_,_,.cons r t,s=>.cons r (Vals.append t s)
theorem Vals.take:∀ {xs:List V} {us:List Value} (n:Nat),Vals xs us->Vals (xs.take n) (us.take n)
 | _,_,0,_=>.nil
 | _,_,_+1,.nil=>.nil
 | _,_,n+1,.cons r t=>.cons r (Vals.take n t)
theorem Vals.drop:∀ {xs:List V} {us:List Value} (n:Nat),Vals xs us->Vals (xs.drop n) (us.drop n)
 | _,_,0,r=>r
 | _,_,_+1,.nil=>.nil
 | _,_,n+1,.cons _ t=>Vals.drop n t
noncomputable def RelO:Option V->Option Value->Prop
 | some v,some u=>RelV v u
 | none,none=>True
 | _,_=>False
noncomputable def KV {κ:Type}:List (κ×V)->List (κ×Value)->Prop:=Paired fun (p:κ×V) (q:κ×Value)=>p.1=q.1/\RelV p.2 q.2
noncomputable def kV:Key->V
 | .inl i=>.int i
 | .inr x=>.str x
inductive HO where
  /-- a list -/
  | lst (xs : List V)
  /-- a tuple (never changes) -/
  | tup (xs : List V)
  /-- a dict whose keys are ints and texts; one whose keys are tuples of ints and texts (the empty one is both) -/
  | dK (kvs : List (Key × V)) | dT (kvs : List (List Key × V))
  /-- a set of ints: its members, its size -/
  | set (S : Int -> Bool) (n : Nat)
  /-- an instance of the class at C, its dict at dx, its attributes -/
  | ins (C dx : Addr) (fs : List (Str × V))
  /-- the dict of the instance at x -/
  | own (x : Addr)
  /-- the dict of an exception -/
  | xd (fs : List (Str × V))
  /-- a bound method, f of x -/
  | met (f x : Addr)
  /-- a range object lo, lo + 1, .. below hi -/
  | rng (lo hi : Int)
  /-- a thing that is known to the object (the script; a dict while a loop walks it): read, never written while it is so -/
  | frz (o : Obj) (u : HO)
  /-- a code object's table -/
  | tbl (ps : Array Value)
  /-- any other thing, by what is true of its one object (a def of one's own: SetO a S n := HO.ext fun h => ..) -/
  | ext (φ : Heap -> Prop)

noncomputable abbrev Hp:=Addr->Option HO
noncomputable def upd (H:Hp) (a:Addr) (o:HO):Hp:=fun b=>if b=a then some o else H b
theorem aM {H:Hp} {o:HO}:upd H a o a=some o:=by unfold upd;rw [if_pos rfl]
theorem aC {H:Hp} {o:HO} (h:b≠a):upd H a o b=H b:=by unfold upd;rw [if_neg h]
theorem aJ {H:Hp} {o:HO} (h:H a=some o) (h':H b=none):a≠b:=by
 intro e;subst e;rw [h] at h';cases h'
noncomputable def Fc (ps:Array Value):Str:=match ps.toList with
 | .str q _::_=>q
 | _=>Str.empty
section
variable (P:Program) (w:World)
noncomputable def ObjOk (H:Hp) (h:Heap) (a:Addr):HO->Prop
 | .lst xs=>xs.length<=sizeLine/\∃ (its:List Value) (n:Nat),Vals xs its/\h.get? a=some { cls:=.type "list",data:=.seq its.toArray n }
 | .tup xs=>xs.length<=sizeLine/\∃ its:List Value,Vals xs its/\IsTup h a its.toArray
 | .dK kvs=>kvs.length<=sizeLine/\(a==sysModules)=false/\∃ vs,KV kvs vs/\h.DictOf (rD P w) a vs
 | .dT kvs=>kvs.length<=sizeLine/\(a==sysModules)=false/\∃ xs:List (List Key×Addr×Value),
   Paired (fun (p:List Key×V) (q:List Key×Addr×Value)=>p.1=q.1/\H q.2.1=some (.tup (p.1.map kV))/\RelV p.2 q.2.2) kvs xs/\
   ∃ o es ep,h.get? a=some o/\o.ExactDict/\o.data=.dict es ep/\es.toList=xs.map (entryOfKey (tupleKind (rD P w)))/\(xs.map (·.1)).Nodup
 | .set S n=>h.SetOf (intKind P w) a S n
 | .ins C dx fs=>H dx=some (.own a)/\fs.length<=1000/\dx≠a/\h.get? a=some (W.instObj C dx)/\
   ∃ mA,h.Ns1 dx mA/\(∀ f,RelO (fs.lookup f) (mA f))/\PySem.Within mA (fs.map (·.1))
 | .own _=>∃ o,h.get? a=some o
 | .xd fs=>∃ mA,h.Ns1 a mA/\∀ f,RelO (fs.lookup f) (mA f)
 | .rng lo hi=>∃ t u v,h.get? a=some { cls:=.type "range",data:=.fields #[.int lo t,.int hi u,.int 1 v] }
 | .frz o u=>h.get? a=some o/\ObjOk H h a u
 | .tbl ps=>∃ qs:Array Value,h.get? a=some { cls:=.none,data:=.fields qs }/\TriplesOk qs.toList/\∀ (pos:Pos) (cv:Value),codeAmong pos qs.toList=some cv->∃ c o vs t,cv=.ref c/\H c=some (.frz o (.own a))/\o.data=.fields vs/\vs[1]?=some (.str (Fc ps) t)
 | .met f x=>h.get? a=some (W.methodObj (.ref f) (.ref x))
 | .ext φ=>φ h/\(∃ o,h.get? a=some o)/\∀ h1 h2:Heap,φ h1->(∀ o,h1.get? a=some o->h2.get? a=some o)->φ h2
noncomputable def HOk (H:Hp) (h:Heap):Prop:=∀ a o,H a=some o->ObjOk P w H h a o
end
section
variable {w:World} {H H':Hp} {o:HO}
theorem ObjOk.lt (x:ObjOk P w H h a o):a<h.objs.size:=by
 cases o with
 | lst xs=>obtain ⟨_,_,_,_,e⟩:=x;exact Heap.lt_size e
 | tup xs=>obtain ⟨_,_,_,p⟩:=x;exact p.lt
 | dK kvs=>obtain ⟨_,_,_,_,o,_,_,e,_⟩:=x;exact Heap.lt_size e
 | dT kvs=>obtain ⟨_,_,_,_,o,_,_,e,_⟩:=x;exact Heap.lt_size e
 | set S n=>obtain ⟨o,_,_,_,e,_⟩:=x;exact Heap.lt_size e
 | ins C dx fs=>obtain ⟨_,_,_,e,_⟩:=x;exact Heap.lt_size e
 | own y=>obtain ⟨_,e⟩:=x;exact Heap.lt_size e
 | xd fs=>obtain ⟨_,⟨_,_,_,e,_⟩,_⟩:=x;exact Heap.lt_size e
 | rng lo hi=>obtain ⟨_,_,_,e⟩:=x;exact Heap.lt_size e
 | frz ob u=>obtain ⟨e,_⟩:=x;exact Heap.lt_size e
 | tbl ps=>obtain ⟨_,e,_⟩:=x;exact Heap.lt_size e
 | met f y=>exact Heap.lt_size (show h.get? a=some _ from x)
 | ext φ=>obtain ⟨_,⟨_,e⟩,_⟩:=x;exact Heap.lt_size e
theorem Paired.mapP {α β:Type} {F G:α->β->Prop}:∀ {l₁:List α} {l₂:List β},Paired F l₁ l₂->(∀ a b,F a b->G a b)->Paired G l₁ l₂
 | _,_,.nil,_=>.nil
 | _,_,.cons r t,f=>.cons (f _ _ r) (Paired.mapP t f)
theorem ObjOk.stay (x:ObjOk P w H h a o) (k:∀ b u,(b=a\/H b=some (.own a))->h.get? b=some u->h'.get? b=some u)
 (ho:∀ b,H b=some (.own a)->H' b=some (.own a)) (ht:∀ b xs,H b=some (.tup xs)->H' b=some (.tup xs)) (hz:∀ b o u,H b=some (.frz o u)->H' b=some (.frz o u):=by exact fun _ _ _ q=>q):ObjOk P w H' h' a o:=by
 induction o with
 | lst xs=>obtain ⟨z,its,n,r,e⟩:=x;exact ⟨z,its,n,r,k _ _ (.inl rfl) e⟩
 | tup xs=>obtain ⟨z,its,r,ob,e,c⟩:=x;exact ⟨z,its,r,ob,k _ _ (.inl rfl) e,c⟩
 | dK kvs=>obtain ⟨z,y,vs,r,ob,es,ep,e,c⟩:=x;exact ⟨z,y,vs,r,ob,es,ep,k _ _ (.inl rfl) e,c⟩
 | dT kvs=>
  obtain ⟨z,y,xs,r,ob,es,ep,e,c⟩:=x
  exact ⟨z,y,xs,Paired.mapP r fun p q z=>⟨z.1,ht _ _ z.2.1,z.2.2⟩,ob,es,ep,k _ _ (.inl rfl) e,c⟩
 | set S n=>obtain ⟨ob,es,ep,t,e,c⟩:=x;exact ⟨ob,es,ep,t,k _ _ (.inl rfl) e,c⟩
 | ins C dx fs=>
  obtain ⟨d,z,ne,e,mA,⟨od,es,ep,e2,c⟩,r⟩:=x
  exact ⟨ho _ d,z,ne,k _ _ (.inl rfl) e,mA,⟨od,es,ep,k _ _ (.inr d) e2,c⟩,r⟩
 | own y=>obtain ⟨ob,e⟩:=x;exact ⟨ob,k _ _ (.inl rfl) e⟩
 | xd fs=>obtain ⟨mA,⟨od,es,ep,e,c⟩,r⟩:=x;exact ⟨mA,⟨od,es,ep,k _ _ (.inl rfl) e,c⟩,r⟩
 | rng lo hi=>obtain ⟨t,u,v,e⟩:=x;exact ⟨t,u,v,k _ _ (.inl rfl) e⟩
 | frz ob u ih=>obtain ⟨e,q⟩:=x;exact ⟨k _ _ (.inl rfl) e,ih q⟩
 | tbl ps=>
  obtain ⟨qs,e,tr,c⟩:=x
  refine ⟨qs,k _ _ (.inl rfl) e,tr,fun pos cv q=>?_⟩
  obtain ⟨c',o',vs,tk,e1,e2,e3⟩:=c pos cv q
  exact ⟨c',o',vs,tk,e1,hz _ _ _ e2,e3⟩
 | met f y=>
  have e:h.get? a=some (W.methodObj (.ref f) (.ref y)):=x
  show h'.get? a=some (W.methodObj (.ref f) (.ref y))
  exact k a _ (.inl rfl) e
 | ext φ=>obtain ⟨p,⟨o,e⟩,st⟩:=x;exact ⟨st _ _ p fun o q=>k _ _ (.inl rfl) q,⟨o,k _ _ (.inl rfl) e⟩,st⟩
theorem HOk.lt (x:HOk P w H h) (e:H a=some o):a<h.objs.size:=(x a o e).lt
theorem HOk.fresh (x:HOk P w H h) (e:h.objs.size<=a):H a=none:=by
 cases q:H a with
 | none=>rfl
 | some u=>exact absurd (Nat.lt_of_lt_of_le (x.lt q) e) (Nat.lt_irrefl _)
theorem HOk.kept (x:HOk P w H h) (k:∀ b u,h.get? b=some u->h'.get? b=some u):HOk P w H h':=fun a o e=>
 (x a o e).stay (fun b u _ q=>k b u q) (fun _ q=>q) fun _ _ q=>q
theorem HOk.laid (x:HOk P w H h) (k:∀ b u,h.get? b=some u->h'.get? b=some u) (hp:h.objs.size<=a) (new:ObjOk P w (upd H a o) h' a o):HOk P w (upd H a o) h':=fun b u e=>by
 have hn:=x.fresh hp
 by_cases hb:b=a
 ·subst hb;rw [aM] at e;cases e;exact new
 ·rw [aC hb] at e
  exact (x b u e).stay (fun c v _ q=>k c v q) (fun c q=>by rw [aC (aJ q hn)];exact q) (fun c xs q=>by rw [aC (aJ q hn)];exact q) fun c ob u q=>by rw [aC (aJ q hn)];exact q
end
noncomputable def Rd (H:Hp) (a:Addr) (u:HO):Prop:=H a=some u\/∃ o,H a=some (.frz o u)
theorem Rd.ok {w:World} {H:Hp} {u:HO} (r:Rd H a u) (x:HOk P w H h):ObjOk P w H h a u:=by
 rcases r with r|⟨o,r⟩
 ·exact x a u r
 ·obtain ⟨_,q⟩:=x a _ r
  exact q
noncomputable def Mut:Option HO->Prop
 | some (.lst _)=>True
 | some (.dK _)=>True
 | some (.dT _)=>True
 | some (.set _ _)=>True
 | some (.ins _ _ _)=>True
 | some (.ext _)=>True
 | _=>False
section
variable {w:World} {H:Hp} {x e:Addr} {o':HO}
theorem HOk.write (ok:HOk P w H h) (mu:Mut (H x)) (he:e=x\/H e=some (.own x)) (k:∀ b u,b≠e->h.get? b=some u->h'.get? b=some u) (heo:∃ u,h'.get? e=some u)
 (new:ObjOk P w (upd H x o') h' x o'):HOk P w (upd H x o') h':=fun b u q=>by
 have nown:∀ c y,H c=some (.own y)->c≠x:=fun c y r z=>by subst z;rw [r] at mu;exact mu
 have ntup:∀ c xs,H c=some (.tup xs)->c≠x:=fun c xs r z=>by subst z;rw [r] at mu;exact mu
 have nfrz:∀ c ob u,H c=some (.frz ob u)->c≠x:=fun c ob u r z=>by subst z;rw [r] at mu;exact mu
 by_cases hb:b=x
 ·subst hb;rw [aM] at q;cases q;exact new
 ·rw [aC hb] at q
  by_cases hbe:b=e
  ·have q':H b=some (.own x):=by
    rcases he with z|z
    ·exact absurd (hbe.trans z) hb
    ·rw [hbe];exact z
   rw [q] at q';cases q'
   obtain ⟨v,hv⟩:=heo
   exact ⟨v,by rw [hbe];exact hv⟩
  ·refine (ok b u q).stay (fun c v hc r=>k c v ?_ r) (fun c r=>by rw [aC (nown c b r)];exact r) (fun c xs r=>by rw [aC (ntup c xs r)];exact r) fun c ob u r=>by rw [aC (nfrz c ob u r)];exact r
   rcases hc with rfl|hc
   ·exact hbe
   ·rintro rfl
    rcases he with z|z
    ·exact nown c b hc z
    ·rw [hc] at z;cases z;exact hb rfl
end
structure Un (fs ex:List Addr) (H H':Hp) (h h':Heap):Prop where
 keep:∀ b o,h.get? b=some o->H b=none->b ∉ fs->b ∉ ex->h'.get? b=some o
 slot:∀ b o,h.get? b=some o->H b=none->b∈fs->b ∉ ex->∃ sl,h'.get? b=some { o with slots:=sl }
 free:∀ b o,h.get? b=some o->H b=none->b ∉ ex->H' b=none
 there:∀ b o,h.get? b=some o->b ∉ ex->∃ o',h'.get? b=some o'
 tups:∀ b xs,H b=some (.tup xs)->H' b=some (.tup xs)
 frzs:∀ b o u,H b=some (.frz o u)->H' b=some (.frz o u)
 tbls:∀ b ps,H b=some (.tbl ps)->∃ more,H' b=some (.tbl (ps++more))
section
variable {fs fs' ex ex':List Addr} {H H1 H2:Hp} {h1 h2:Heap} {x e:Addr} {o:HO}
theorem Un.any (u:Un fs ex H H1 h h1) {ob:Obj} (q:h.get? b=some ob) (n:H b=none) (hx:b ∉ ex):∃ sl,h1.get? b=some { ob with slots:=sl }:=by
 by_cases hb:b∈fs
 ·exact u.slot b ob q n hb hx
 ·exact ⟨ob.slots,u.keep b ob q n hb hx⟩
theorem Un.kept (k:∀ b u,h.get? b=some u->h'.get? b=some u):Un fs ex H H h h':=
 ⟨fun b ob q _ _ _=>k b ob q,fun b ob q _ _ _=>⟨ob.slots,k b ob q⟩,fun _ _ _ n _=>n,fun b ob q _=>⟨ob,k b ob q⟩,fun _ _ q=>q,fun _ _ _ q=>q,fun _ ps q=>⟨#[],by rw [q];simp⟩⟩
theorem Un.refl:Un fs ex H H h h:=Un.kept fun _ _ q=>q
theorem Un.laid (k:∀ b u,h.get? b=some u->h'.get? b=some u) (hp:h.objs.size<=a) (hn:H a=none):Un fs ex H (upd H a o) h h' where
 keep:=fun b u q _ _ _=>k b u q
 slot:=fun b u q _ _ _=>⟨u.slots,k b u q⟩
 free:=fun b u q n _=>by rw [aC (Nat.ne_of_lt (Nat.lt_of_lt_of_le (Heap.lt_size q) hp))];exact n
 there:=fun b u q _=>⟨u,k b u q⟩
 tups:=fun b xs q=>by rw [aC (aJ q hn)];exact q
 frzs:=fun b u xs q=>by rw [aC (aJ q hn)];exact q
 tbls:=fun b ps q=>⟨#[],by rw [aC (aJ q hn),q];simp⟩
theorem Un.write (mu:Mut (H x)) (he:e=x\/H e=some (.own x)) (k:∀ b u,b≠e->h.get? b=some u->h'.get? b=some u) (heo:∃ u,h'.get? e=some u):Un fs ex H (upd H x o) h h':=by
 have hx:∀ b,H b=none->b≠x:=fun b n z=>by subst z;rw [n] at mu;exact mu
 have hb:∀ b,H b=none->b≠e:=fun b n z=>by
  subst z
  rcases he with r|r
  ·exact hx b n r
  ·rw [n] at r;cases r
 have hm:∀ b u,H b=some u->¬ Mut (some u)->b≠x:=fun b u q nm z=>by subst z;rw [q] at mu;exact nm mu
 refine ⟨fun b u q n _ _=>k b u (hb b n) q,fun b u q n _ _=>⟨u.slots,k b u (hb b n) q⟩,fun b u q n _=>by rw [aC (hx b n)];exact n,fun b u q _=>?_,
  fun b xs q=>by rw [aC (hm b _ q fun z=>z)];exact q,fun b u xs q=>by rw [aC (hm b _ q fun z=>z)];exact q,fun b ps q=>⟨#[],by rw [aC (hm b _ q fun z=>z),q];simp⟩⟩
 by_cases hbe:b=e
 ·subst hbe;exact heo
 ·exact ⟨u,k b u hbe q⟩
end
noncomputable def Bz:HO->Value
 | .tbl ps=>if ps.size=1 then ps.getD 0 .none else .none
 | _=>.none
noncomputable def EE (H:Hp) (b:Addr) (o:Obj):Obj:=match H b with
 | none=>(match o.data with|.freed=>⟨.none,none,.freed,#[]⟩|_=>o)
 | some u=>⟨Bz u,none,.freed,#[]⟩
noncomputable def zh (h:Heap) (H:Hp):Heap:=⟨h.objs.mapIdx fun b o=>EE H b o,h.life⟩
theorem yq (h:Heap) (H:Hp):(zh h H).objs.size=h.objs.size:=Array.size_mapIdx
theorem get_objs {o:Obj}:h.get? b=some o ↔ h.objs[b]?=some o/\o.data ≠ .freed:=by
 unfold Heap.get?
 constructor
 ·intro e
  split at e
  ·cases e
  ·rename_i z
   refine ⟨e,fun q=>?_⟩
   obtain ⟨a,b,c,d⟩:=o
   cases q
   exact z _ _ _ e
 ·rintro ⟨e,n⟩
  rw [e]
  obtain ⟨a,b,c,d⟩:=o
  split
  ·rename_i q
   cases q
   exact absurd rfl n
  ·rfl
theorem kU (h:Heap) (H:Hp) (b:Addr):(zh h H).objs[b]?=(h.objs[b]?).map (EE H b):=Array.getElem?_mapIdx
theorem Bs {H:Hp} {o:Obj} (e:h.get? b=some o) (n:H b=none):(zh h H).get? b=some o:=by
 obtain ⟨e1,e2⟩:=get_objs.1 e
 have z:EE H b o=o:=by
  unfold EE
  rw [n]
  cases q:o.data <;> first|rfl|exact absurd q e2
 exact get_objs.2 ⟨by rw [kU,e1,Option.map_some,z],e2⟩
theorem CH {H:Hp} {o:Obj} (e:(zh h H).get? b=some o):h.get? b=some o/\H b=none:=by
 obtain ⟨e1,e2⟩:=get_objs.1 e
 rw [kU] at e1
 cases q:h.objs[b]? with
 | none=>rw [q] at e1;cases e1
 | some o'=>
  rw [q,Option.map_some] at e1
  have e1:=Option.some.inj e1
  unfold EE at e1
  cases hq:H b with
  | none=>
   rw [hq] at e1
   dsimp only at e1
   split at e1
   ·rw [<- e1] at e2;exact absurd rfl e2
   ·exact ⟨get_objs.2 ⟨by rw [q,e1],e2⟩,rfl⟩
  | some u=>rw [hq] at e1;dsimp only at e1;rw [<- e1] at e2;exact absurd rfl e2
noncomputable def Hx (base:Heap) (p:Addr) (q:Str):Prop:=base.objs[p]?=some ⟨.str q 0,none,.freed,#[]⟩
noncomputable def TabsIn (base:Heap) (H:Hp):Prop:=∀ p q,Hx base p q->∃ more,H p=some (.tbl (#[.str q 0]++more))
theorem xJ (h : Heap) (H : Hp) : TabsIn (zh h H) H := fun p q e => by
  unfold Hx at e
  rw [kU] at e
  cases z : h.objs[p]? with
  | none => rw [z] at e; cases e
  | some o =>
    rw [z, Option.map_some] at e
    have e := Option.some.inj e
    unfold EE at e
    cases hq : H p with
    | none =>
      rw [hq] at e
      dsimp only at e
      split at e
      · cases e
      · rename_i n; rw [e] at n; exact absurd rfl n
    | some u =>
      rw [hq] at e
      have e := congrArg Obj.cls e
      cases u with
      | tbl ps =>
        dsimp only [Bz] at e
        split at e
        · rename_i n
          refine ⟨#[], ?_⟩
          obtain ⟨l⟩ := ps
          match l, n with
          | [v], _ => have : v = .str q 0 := e
                      rw [this]; rfl
        · cases e
      | _ => cases e
theorem TabsIn.un {base:Heap} {fs ex:List Addr} {H H':Hp} (t:TabsIn base H) (u:Un fs ex H H' h h'):TabsIn base H':=fun p q e=>by
 obtain ⟨m1,z⟩:=t p q e
 obtain ⟨m2,z⟩:=u.tbls p _ z
 exact ⟨m1++m2,by rw [z,Array.append_assoc]⟩
noncomputable def DD (g h:Heap) (L:Addr):List (Addr×Obj):=(List.range h.objs.size).filterMap fun a=>if a=L\/(g.get? a).isSome=true then none else (h.get? a).map fun o=>(a,o)
noncomputable def di (g h:Heap) (L d:Addr):List (Addr×Obj):=(DD g h L).filter fun p=>decide (p.1≠d)
end L2
variable {xs vs:List L2.V} {H H' G G₀:L2.Hp} {v:L2.V} {sq:L2.Hp->List L2.V->Prop}
namespace L2
open PySem PySem.Spec PyProof.Rows
structure Mod (K:W.Frag) (mg:Str->Option Value) (base:Heap):Prop where
 kin:K.In base
 glob:base.Ns mainGlobals mg
 blt:∃ mb,base.Ns builtinsNs mb/\∀ x:Str,x ≠ "__name__"->mb x=bootBuiltins x
 nolimit:base.NoLimit
structure Cx where
 prog:Program
 w:World
 K:W.Frag
 mg:Str->Option Value
 base:Heap
 A:Around
 N:List Str
 s₀:Shared
 H₀:Hp
 env:Env
 outer:List Env
 stack:List Env
 ex:List Addr
 fn:Str->Bool
 calm:Bool
 pn:List (Addr×Obj)
 xe:Value->Shared->Prop
noncomputable def frs (l:List Env):List Addr:=l.filterMap (·.frame)
noncomputable abbrev Cx.fs (X:Cx):List Addr:=frs X.outer
noncomputable def Vis (sc:Scope) (x:Str):Prop:=sc.names.lookup x=some .local\/sc.names.lookup x=some .cell\/sc.names.lookup x=some .free
noncomputable def Loc (sc:Scope) (x:Str):Prop:=sc.names.lookup x=some .local\/sc.names.lookup x=some .cell
noncomputable def Lm (env:Env) (h:Heap) (m:Str->Option Value) (x:Str) (u:Value):Prop:=
 (env.kindOf x=some .local/\m x=some u)\/((env.kindOf x=some .cell\/env.kindOf x=some .free)/\∃ c,env.cells.lookup x=some c/\h.IsCell c (some u))
structure Cx.Ok (X:Cx):Prop where
 mod:Mod X.K X.mg X.base
 kind:X.env.scope.kind=.function
 glob:X.env.globals=mainGlobals
 blt:X.env.builtins=builtinsNs
 above:X.s₀.heap.objs.size<=X.env.locals
 inj:∀ x y c,X.env.cells.lookup x=some c->X.env.cells.lookup y=some c->x=y
 has:∀ x,(X.env.kindOf x=some .cell\/X.env.kindOf x=some .free)->∃ c,X.env.cells.lookup x=some c
 cab:∀ x c,X.fn x=true->X.env.cells.lookup x=some c->X.s₀.heap.objs.size<=c
 hd:X.calm=true->X.A.handled=none
 frames:X.A.frames=some X.stack
 stk:X.stack=X.outer\/(X.stack=X.env::X.outer/\X.env.frame=some X.env.locals)
 exf:∀ b∈X.ex,b≠X.env.locals/\∀ x c,X.env.cells.lookup x=some c->c≠b
 bs:∀ b o,X.base.get? b=some o->X.s₀.heap.get? b=some o/\X.H₀ b=none
 bsz:X.base.objs.size<=X.s₀.heap.objs.size
 noex:∀ b o,X.base.get? b=some o->b ∉ X.ex
 exfs:∀ b∈X.ex,b ∉ X.fs
 funs:X.s₀.heap.FunFrames X.base X.outer
 frf:∀ b∈X.fs,X.H₀ b=none
 tabs:TabsIn X.base X.H₀
structure Inv (X:Cx) (pins:List (Addr×Obj)) (σ:List (Option V)) (H:Hp) (s:Shared):Prop where
 ok:X.Ok
 os:s.os=X.s₀.os
 bare:AllBare s.gens
 base:Un X.fs X.ex X.H₀ H X.s₀.heap s.heap
 loc:∃ m,s.heap.Ns X.env.locals m/\∀ (i:Nat) (x:Str) (v:V),X.N[i]?=some x->σ[i]?=some (some v)->Vis X.env.scope x->∃ u,RelV v u/\Lm X.env s.heap m x u
 cell:∀ x c,X.env.cells.lookup x=some c->∃ v,s.heap.IsCell c v
 free:H X.env.locals=none
 freeC:∀ x c,X.env.cells.lookup x=some c->H c=none
 pin:∀ p∈X.pn++pins,s.heap.get? p.1=some p.2/\H p.1=none/\p.1≠X.env.locals/\p.1 ∉ X.fs/\∀ v,p.2.data ≠ .cell v
 hok:HOk X.prog X.w H s.heap
 len:σ.length=X.N.length
section
variable {X:Cx} {σ:List (Option V)}
theorem Cx.Ok.nofr (ok:X.Ok) {o:Obj} (e:X.base.get? b=some o):b ∉ X.fs:=fun hb=>by
 have:=(ok.funs.mem hb).1
 rw [e] at this;cases this
theorem Inv.bs (I:Inv X pins σ H s):∀ b o,X.base.get? b=some o->s.heap.get? b=some o/\H b=none:=fun b o e=>
 ⟨I.base.keep b o (I.ok.bs b o e).1 (I.ok.bs b o e).2 (I.ok.nofr e) (I.ok.noex b o e),I.base.free b o (I.ok.bs b o e).1 (I.ok.bs b o e).2 (I.ok.noex b o e)⟩
theorem Inv.bk (I:Inv X pins σ H s):∀ b o,X.base.get? b=some o->s.heap.get? b=some o:=fun b o e=>(I.bs b o e).1
theorem Inv.mod (I:Inv X pins σ H s):Mod X.K X.mg X.base:=I.ok.mod
theorem Inv.kIn (I:Inv X pins σ H s):X.K.In s.heap:=I.ok.mod.kin.keeps I.bk
theorem Inv.lt (I:Inv X pins σ H s):X.env.locals<s.heap.objs.size:=let ⟨_,hn,_⟩:=I.loc;hn.lt
theorem Inv.sz (I:Inv X pins σ H s):X.s₀.heap.objs.size<=s.heap.objs.size:=Nat.le_trans I.ok.above (Nat.le_of_lt I.lt)
theorem Inv.nofs (I:Inv X pins σ H s) (h:s.heap.objs.size<=a):a ∉ X.fs:=fun hb=>by
 obtain ⟨_,o,ho,_⟩:=I.ok.funs.mem hb
 exact absurd (Nat.lt_of_lt_of_le (Heap.lt_size ho) (Nat.le_trans I.sz h)) (Nat.lt_irrefl _)
theorem Inv.cne (I:Inv X pins σ H s):∀ x c,X.env.cells.lookup x=some c->c≠X.env.locals:=fun x c e z=>by
 obtain ⟨v,o,ho,hd⟩:=I.cell x c e
 obtain ⟨m,⟨o',es,ep,ho',hd',_⟩,_⟩:=I.loc
 rw [z,ho'] at ho;cases ho;rw [hd'] at hd;cases hd
theorem Inv.funs (I:Inv X pins σ H s):s.heap.FunFrames X.base X.outer:=by
 have all:∀ (l:List Env),(∀ b∈frs l,b∈X.fs)->X.s₀.heap.FunFrames X.base l->s.heap.FunFrames X.base l:=by
  intro l
  induction l with
  | nil=>intro _ _;trivial
  | cons env r ih=>
   intro hs hl
   obtain ⟨hk,⟨L,o,hf,hn,ho,hd⟩,hr⟩:=hl
   have hL:L∈X.fs:=hs L (by unfold frs;rw [List.filterMap_cons,hf];exact List.mem_cons_self)
   obtain ⟨sl,e⟩:=I.base.slot L o ho (I.ok.frf L hL) hL fun z=>I.ok.exfs L z hL
   exact ⟨hk,⟨L,_,hf,hn,e,hd⟩,ih (fun b hb=>hs b (by unfold frs;rw [List.filterMap_cons,hf];exact List.mem_cons_of_mem _ hb)) hr⟩
 exact all X.outer (fun _ hb=>hb) I.ok.funs
theorem Inv.stack (I:Inv X pins σ H s):s.heap.FunFrames X.base X.stack:=by
 rcases I.ok.stk with e|⟨e,hf⟩
 ·rw [e];exact I.funs
 ·rw [e]
  obtain ⟨m,hn,_⟩:=I.loc
  refine .cons (by rw [I.ok.kind];decide) hf hn ?_ I.funs
  exact Heap.get?_none_of_le (Nat.le_trans I.ok.bsz I.ok.above)
theorem Inv.stkSub (I:Inv X pins σ H s):∀ b∈frs X.stack,b∈X.env.locals::X.fs:=fun b hb=>by
 rcases I.ok.stk with e|⟨e,hf⟩
 ·rw [e] at hb;exact List.mem_cons_of_mem _ hb
 ·rw [e] at hb
  unfold frs at hb
  rw [List.filterMap_cons,hf] at hb
  exact hb
theorem Inv.stkFree (I:Inv X pins σ H s):∀ b∈frs X.stack,H b=none:=fun b hb=>by
 rcases List.mem_cons.mp (I.stkSub b hb) with e|hb
 ·rw [e];exact I.free
 ·obtain ⟨_,o,ho,_⟩:=I.ok.funs.mem hb
  exact I.base.free b o ho (I.ok.frf b hb) fun z=>I.ok.exfs b z hb
theorem Inv.step {g':Array GenState} {t':Nat} {d':Drawn} (I:Inv X pins σ H s)
 (hch:∀ b∈ch,(b∈X.ex\/X.s₀.heap.objs.size<=b)/\b≠X.env.locals/\(∀ x c,X.env.cells.lookup x=some c->c≠b)/\∀ p∈X.pn++pins,p.1≠b)
 (keep:∀ b o,b≠X.env.locals->b ∉ X.fs->b ∉ ch->s.heap.get? b=some o->H b=none->h'.get? b=some o)
 (slot:∀ b o,b≠X.env.locals->b∈X.fs->b ∉ ch->s.heap.get? b=some o->H b=none->∃ sl,h'.get? b=some { o with slots:=sl }) (free:∀ b o,b ∉ ch->s.heap.get? b=some o->H b=none->H' b=none)
 (there:∀ b o,b ∉ ch->s.heap.get? b=some o->∃ o',h'.get? b=some o')
 (tups:∀ b xs,H b=some (.tup xs)->H' b=some (.tup xs)) (frzs:∀ b o u,H b=some (.frz o u)->H' b=some (.frz o u)) (tbls:∀ b ps,H b=some (.tbl ps)->∃ more,H' b=some (.tbl (ps++more)))
 (ns:∀ m,s.heap.Ns X.env.locals m->h'.Ns X.env.locals m) (hok:HOk X.prog X.w H' h') (hg:AllBare g') :
  Inv X pins σ H' { s with heap:=h',gens:=g',drawn:=d',toks:=t' }:=by
 have neL:∀ b o,X.s₀.heap.get? b=some o->b≠X.env.locals:=fun b o e=>Nat.ne_of_lt (Nat.lt_of_lt_of_le (Heap.lt_size e) I.ok.above)
 have neC:∀ b o,X.s₀.heap.get? b=some o->b ∉ X.ex->b ∉ ch:=fun b o e hx hb=>by
  rcases (hch b hb).1 with z|z
  ·exact hx z
  ·exact absurd (Nat.lt_of_lt_of_le (Heap.lt_size e) z) (Nat.lt_irrefl _)
 have cellK:∀ x c,X.env.cells.lookup x=some c->∀ v,s.heap.IsCell c v->h'.IsCell c v:=fun x c e v ⟨o,ho,hd⟩=>by
  have nch:c ∉ ch:=fun z=>(hch c z).2.2.1 x c e rfl
  by_cases hc:c∈X.fs
  ·obtain ⟨sl,q⟩:=slot c o (I.cne x c e) hc nch ho (I.freeC x c e)
   exact ⟨_,q,hd⟩
  ·exact ⟨o,keep c o (I.cne x c e) hc nch ho (I.freeC x c e),hd⟩
 refine ⟨I.ok,I.os,hg,⟨fun b o e n hb hx=>?_,fun b o e n hb hx=>?_,fun b o e n hx=>?_,fun b o e hx=>?_,fun b xs e=>tups b xs (I.base.tups b xs e),fun b o xs e=>frzs b o xs (I.base.frzs b o xs e),fun b ps e=>?_⟩,?_,fun x c e=>?_,?_,fun x c e=>?_,fun p hp=>?_,hok,I.len⟩
 ·exact keep b o (neL b o e) hb (neC b o e hx) (I.base.keep b o e n hb hx) (I.base.free b o e n hx)
 ·obtain ⟨sl,e1⟩:=I.base.slot b o e n hb hx
  obtain ⟨sl',e2⟩:=slot b _ (neL b o e) hb (neC b o e hx) e1 (I.base.free b o e n hx)
  exact ⟨sl',e2⟩
 ·obtain ⟨o',e1⟩:=I.base.there b o e hx
  exact free b o' (neC b o e hx) e1 (I.base.free b o e n hx)
 ·obtain ⟨o',e1⟩:=I.base.there b o e hx
  exact there b o' (neC b o e hx) e1
 ·obtain ⟨m1,e1⟩:=I.base.tbls b ps e
  obtain ⟨m2,e2⟩:=tbls b _ e1
  exact ⟨m1++m2,by rw [e2,Array.append_assoc]⟩
 ·obtain ⟨m,hn,hl⟩:=I.loc
  refine ⟨m,ns m hn,fun i x v e1 e2 e3=>?_⟩
  obtain ⟨u,r,l⟩:=hl i x v e1 e2 e3
  refine ⟨u,r,?_⟩
  rcases l with l|⟨k,c,e,z⟩
  ·exact .inl l
  ·exact .inr ⟨k,c,e,cellK x c e _ z⟩
 ·obtain ⟨v,z⟩:=I.cell x c e
  exact ⟨v,cellK x c e v z⟩
 ·obtain ⟨m,⟨o,_,_,ho,_⟩,_⟩:=I.loc
  exact free _ o (fun z=>(hch _ z).2.1 rfl) ho I.free
 ·obtain ⟨v,o,ho,hd⟩:=I.cell x c e
  exact free c o (fun z=>(hch c z).2.2.1 x c e rfl) ho (I.freeC x c e)
 ·obtain ⟨e,n,ne,nf,d⟩:=I.pin p hp
  have nch:p.1 ∉ ch:=fun z=>(hch p.1 z).2.2.2 p hp rfl
  exact ⟨keep p.1 p.2 ne nf nch e n,free p.1 p.2 nch e n,ne,nf,d⟩
theorem Inv.un {t':Nat} (I:Inv X pins σ H s) (u:Un X.fs [] H H' s.heap h') (hok:HOk X.prog X.w H' h'):Inv X pins σ H' { s with heap:=h',toks:=t' }:=by
 obtain ⟨m,⟨o,es,ep,ho,r⟩,_⟩:=id I.loc
 obtain ⟨sl,hL⟩:=u.any ho I.free (by simp)
 exact I.step (g':=s.gens) (d':=s.drawn) (ch:=[]) (fun _ z=>nomatch z) (fun b o _ hb _ e n=>u.keep b o e n hb (by simp)) (fun b o _ hb _ e n=>u.slot b o e n hb (by simp)) (fun b o _ e n=>u.free b o e n (by simp)) (fun b o _ e=>u.there b o e (by simp)) u.tups u.frzs u.tbls (fun m' hm=>by
  obtain ⟨o',es',ep',ho',r'⟩:=hm
  rw [ho] at ho';cases ho'
  exact ⟨_,es',ep',hL,r'⟩) hok I.bare
theorem Inv.call {g':Array GenState} {t':Nat} {d':Drawn} (I:Inv X pins σ H s) (u:Un (frs X.stack) ch H H' s.heap h') (hok:HOk X.prog X.w H' h') (hg:AllBare g')
 (hch:∀ b∈ch,(b∈X.ex\/X.s₀.heap.objs.size<=b)/\b≠X.env.locals/\(∀ x c,X.env.cells.lookup x=some c->c≠b)/\∀ p∈X.pn++pins,p.1≠b) :
  Inv X pins σ H' { s with heap:=h',gens:=g',drawn:=d',toks:=t' }:=by
 obtain ⟨m,⟨o,es,ep,ho,r⟩,_⟩:=id I.loc
 obtain ⟨sl,hL⟩:=u.any ho I.free fun z=>(hch _ z).2.1 rfl
 exact I.step (ch:=ch) hch (fun b o hL hb hc e n=>u.keep b o e n (fun z=>(List.mem_cons.mp (I.stkSub b z)).elim hL hb) hc) (fun b o _ _ hc e n=>u.any e n hc) (fun b o hc e n=>u.free b o e n hc) (fun b o hc e=>u.there b o e hc) u.tups u.frzs u.tbls (fun m' hm=>by
  obtain ⟨o',es',ep',ho',r'⟩:=hm
  rw [ho] at ho';cases ho'
  exact ⟨_,es',ep',hL,r'⟩) hok hg
theorem Inv.turned {t':Nat} (I:Inv X pins σ H s) (k:∀ b o,b≠it->s.heap.get? b=some o->h'.get? b=some o) (hn:H it=none) (hL:it≠X.env.locals)
 (h1:it∈X.ex\/X.s₀.heap.objs.size<=it) (h2:∀ x c,X.env.cells.lookup x=some c->c≠it) (h3:∀ p∈X.pn++pins,p.1≠it):Inv X pins σ H { s with heap:=h',toks:=t' }:=by
 have nit:∀ b u,H b=some u->b≠it:=fun b u e z=>by rw [z,hn] at e;cases e
 refine I.step (g':=s.gens) (d':=s.drawn) (ch:=[it]) (fun b hb=>?_) (fun b o _ _ hc e _=>k b o (fun z=>hc (by simp [z])) e) (fun b o _ _ hc e _=>⟨o.slots,k b o (fun z=>hc (by simp [z])) e⟩) (fun _ _ _ _ n=>n)
  (fun b o hc e=>⟨o,k b o (fun z=>hc (by simp [z])) e⟩) (fun _ _ e=>e) (fun _ _ _ e=>e) (fun b ps e=>⟨#[],by rw [e];simp⟩) (fun m hm=>?_) (fun b u e=>?_) I.bare
 ·have e:b=it:=by simpa using hb
  subst e
  exact ⟨h1,hL,h2,h3⟩
 ·obtain ⟨o,es,ep,ho,r⟩:=hm
  exact ⟨o,es,ep,k _ o (Ne.symm hL) ho,r⟩
 ·refine (I.hok b u e).stay (fun c v hc q=>k c v ?_ q) (fun _ q=>q) fun _ _ q=>q
  rcases hc with z|z
  ·rw [z];exact nit b u e
  ·exact nit c _ z
theorem Inv.tok (I:Inv X pins σ H s) (t:Nat):Inv X pins σ H { s with toks:=t }:=I.un (h':=s.heap) (t':=t) Un.refl I.hok
theorem Inv.kept {t':Nat} (I:Inv X pins σ H s) (k:∀ b u,s.heap.get? b=some u->h'.get? b=some u):Inv X pins σ H { s with heap:=h',toks:=t' }:=I.un (Un.kept k) (I.hok.kept k)
theorem Inv.laid {o:HO} {t':Nat} (I:Inv X pins σ H s) (k:∀ b u,s.heap.get? b=some u->h'.get? b=some u) (hp:s.heap.objs.size<=a) (new:ObjOk X.prog X.w (upd H a o) h' a o) :
  Inv X pins σ (upd H a o) { s with heap:=h',toks:=t' }:=I.un (Un.laid k hp (I.hok.fresh hp)) (I.hok.laid k hp new)
theorem Inv.write {x e:Addr} {o:HO} {t':Nat} (I:Inv X pins σ H s) (mu:Mut (H x)) (he:e=x\/H e=some (.own x)) (k:∀ b u,b≠e->s.heap.get? b=some u->h'.get? b=some u) (heo:∃ u,h'.get? e=some u)
 (new:ObjOk X.prog X.w (upd H x o) h' x o):Inv X pins σ (upd H x o) { s with heap:=h',toks:=t' }:=I.un (Un.write mu he k heo) (I.hok.write mu he k heo new)
theorem Inv.pins_of {pins':List (Addr×Obj)} (I:Inv X pins σ H s) (h:∀ p∈pins',s.heap.get? p.1=some p.2/\H p.1=none/\p.1≠X.env.locals/\p.1 ∉ X.fs/\∀ v,p.2.data ≠ .cell v):Inv X pins' σ H s:=
 ⟨I.ok,I.os,I.bare,I.base,I.loc,I.cell,I.free,I.freeC,fun p hp=>(List.mem_append.mp hp).elim (fun z=>I.pin p (List.mem_append_left _ z)) (h p),I.hok,I.len⟩
theorem uf {N:List Str} (hN:N.Nodup) (a:N[i]?=some x) (b:N[j]?=some x):i=j:=by
 obtain ⟨h1,e1⟩:=List.getElem?_eq_some_iff.mp a
 obtain ⟨h2,e2⟩:=List.getElem?_eq_some_iff.mp b
 exact (List.getElem_inj hN).mp (e1.trans e2.symm)
theorem xf {M:Model} {A:Around} {Q:Unit->Shared->Prop} (I:Inv X pins σ H s) (hN:X.N.Nodup) (hi:X.N[i]?=some x) (hx:Loc X.env.scope x) (r:RelV v u)
 (h:∀ s',Inv X pins (σ.set i (some v)) H s'->(∃ a,Heap.SameBut a s.heap s'.heap/\(a=X.env.locals\/X.env.cells.lookup x=some a))->Q () s') (hf:X.fn x=true\/X.env.scope.names.lookup x=some .local:=by first|exact .inl rfl|exact .inr rfl|assumption):wpAny M A (storeName X.env x u) Q E s:=by
 obtain ⟨m,hn,hl⟩:=id I.loc
 have hcls:(X.env.scope.kind==.class || (X.env.scope.kind==.module && X.env.locals != X.env.globals))=false:=by rw [I.ok.kind];rfl
 have hiσ:i<σ.length:=by rw [I.len];exact (List.getElem?_eq_some_iff.mp hi).1
 have cne:=I.cne
 have tracked:∀ {a:Addr} {h':Heap},(∃ o,s.heap.get? a=some o/\H a=none)->Heap.SameBut a s.heap h'->HOk X.prog X.w H h':=fun {a h'} ha hs b ob e=>by
  obtain ⟨_,_,hfree⟩:=ha
  refine (I.hok b ob e).stay (fun c w' hc q=>(hs.2 c ?_).trans q) (fun _ q=>q) fun _ _ q=>q
  rintro rfl
  rcases hc with rfl|hc
  ·rw [hfree] at e;cases e
  ·rw [hfree] at hc;cases hc
 rcases hx with hk|hk
 ·refine wpAny_storeName_local hk hn (fun h' hn' hs=>?_) hcls
  obtain ⟨oL,_,_,hoL,_⟩:=id hn
  refine h _ ⟨I.ok,I.os,I.bare,⟨fun b o e n hb hx=>?_,fun b o e n hb hx=>?_,I.base.free,fun b o e hx=>?_,I.base.tups,I.base.frzs,I.base.tbls⟩,⟨_,hn',fun j y v' e1 e2 e3=>?_⟩,fun y c e=>?_,I.free,I.freeC,fun p hp=>?_,tracked ⟨oL,hoL,I.free⟩ hs,by simpa using I.len⟩ ⟨_,hs,.inl rfl⟩
  ·exact (hs.2 b (Nat.ne_of_lt (Nat.lt_of_lt_of_le (Heap.lt_size e) I.ok.above))).trans (I.base.keep b o e n hb hx)
  ·obtain ⟨sl,e1⟩:=I.base.slot b o e n hb hx
   exact ⟨sl,(hs.2 b (Nat.ne_of_lt (Nat.lt_of_lt_of_le (Heap.lt_size e) I.ok.above))).trans e1⟩
  ·obtain ⟨o',e1⟩:=I.base.there b o e hx
   exact ⟨o',(hs.2 b (Nat.ne_of_lt (Nat.lt_of_lt_of_le (Heap.lt_size e) I.ok.above))).trans e1⟩
  ·by_cases hj:j=i
   ·subst hj
    rw [hi] at e1;cases e1
    rw [List.getElem?_set_self hiσ] at e2
    cases e2
    exact ⟨u,r,.inl ⟨hk,by simp⟩⟩
   ·rw [List.getElem?_set_ne (Ne.symm hj)] at e2
    obtain ⟨u',r',q⟩:=hl j y v' e1 e2 e3
    refine ⟨u',r',?_⟩
    rcases q with ⟨k,e⟩|⟨k,c,e,z⟩
    ·refine .inl ⟨k,?_⟩
     have:y≠x:=fun e=>hj (uf hN e1 (e ▸ hi))
     simp [this,e]
    ·exact .inr ⟨k,c,e,z.sameBut hs (cne y c e)⟩
  ·obtain ⟨w',z⟩:=I.cell y c e
   exact ⟨w',z.sameBut hs (cne y c e)⟩
  ·obtain ⟨e,n,ne,nf,d⟩:=I.pin p hp
   exact ⟨(hs.2 p.1 ne).trans e,n,ne,nf,d⟩
 ·have hfn:X.fn x=true:=by
   rcases hf with z|z
   ·exact z
   ·rw [z] at hk;cases hk
  obtain ⟨c,hc⟩:=I.ok.has x (.inl hk)
  obtain ⟨w',z⟩:=I.cell x c hc
  refine wpAny_storeName_cell I.ok.kind hk hc z (fun h' hc' hs=>?_)
  obtain ⟨oc,hoc,hocd⟩:=id z
  refine h { s with heap:=h' } ⟨I.ok,I.os,I.bare,⟨fun b o e n hb hx=>?_,fun b o e n hb hx=>?_,I.base.free,fun b o e hx=>?_,I.base.tups,I.base.frzs,I.base.tbls⟩,⟨m,hn.sameBut hs (Ne.symm (cne x c hc)),fun j y v' e1 e2 e3=>?_⟩,fun y c' e=>?_,I.free,I.freeC,fun p hp=>?_,tracked ⟨oc,hoc,I.freeC x c hc⟩ hs,by simpa using I.len⟩ ⟨c,hs,.inr hc⟩
  ·exact (hs.2 b (Nat.ne_of_lt (Nat.lt_of_lt_of_le (Heap.lt_size e) (I.ok.cab x c hfn hc)))).trans (I.base.keep b o e n hb hx)
  ·obtain ⟨sl,e1⟩:=I.base.slot b o e n hb hx
   exact ⟨sl,(hs.2 b (Nat.ne_of_lt (Nat.lt_of_lt_of_le (Heap.lt_size e) (I.ok.cab x c hfn hc)))).trans e1⟩
  ·obtain ⟨o',e1⟩:=I.base.there b o e hx
   exact ⟨o',(hs.2 b (Nat.ne_of_lt (Nat.lt_of_lt_of_le (Heap.lt_size e) (I.ok.cab x c hfn hc)))).trans e1⟩
  ·by_cases hj:j=i
   ·subst hj
    rw [hi] at e1;cases e1
    rw [List.getElem?_set_self hiσ] at e2
    cases e2
    exact ⟨u,r,.inr ⟨.inl hk,c,hc,hc'⟩⟩
   ·rw [List.getElem?_set_ne (Ne.symm hj)] at e2
    obtain ⟨u',r',q⟩:=hl j y v' e1 e2 e3
    refine ⟨u',r',?_⟩
    rcases q with q|⟨k,c',e,z'⟩
    ·exact .inl q
    ·refine .inr ⟨k,c',e,z'.sameBut hs ?_⟩
     rintro rfl
     exact hj (uf hN e1 (I.ok.inj _ _ _ e hc ▸ hi))
  ·by_cases hcc:c'=c
   ·subst hcc;exact ⟨_,hc'⟩
   ·obtain ⟨w2,z2⟩:=I.cell y c' e
    exact ⟨w2,z2.sameBut hs hcc⟩
  ·obtain ⟨e,n,ne,nf,d⟩:=I.pin p hp
   refine ⟨(hs.2 p.1 ?_).trans e,n,ne,nf,d⟩
   intro q
   rw [q,hoc] at e
   have q':oc=p.2:=Option.some.inj e
   exact d w' (by rw [<- q'];exact hocd)
theorem nG {M:Model} {A:Around} {Q:Unit->Shared->Prop} (I:Inv X pins σ H s) (hN:X.N.Nodup) (hi:X.N[i]?=some x) (hx:Loc X.env.scope x) (r:RelV v u)
 (h:∀ s',Inv X pins (σ.set i (some v)) H s'->Q () s') (hf:X.fn x=true\/X.env.scope.names.lookup x=some .local:=by first|exact .inl rfl|exact .inr rfl|assumption):wpAny M A (storeName X.env x u) Q E s:=
 xf I hN hi hx r (fun s' I' _=>h s' I') hf
theorem Inv.call' (I:Inv X pins σ H s) (ho:s'.os=s.os) (u:Un (frs X.stack) ch H H' s.heap s'.heap) (hok:HOk X.prog X.w H' s'.heap) (hg:AllBare s'.gens)
 (hch:∀ b∈ch,(b∈X.ex\/X.s₀.heap.objs.size<=b)/\b≠X.env.locals/\(∀ x c,X.env.cells.lookup x=some c->c≠b)/\∀ p∈X.pn++pins,p.1≠b):Inv X pins σ H' s':=by
 obtain ⟨h',g',d',t',o'⟩:=s'
 have e:o'=s.os:=ho
 subst e
 exact I.call (g':=g') (t':=t') (d':=d') u hok hg hch
end
noncomputable abbrev XK:=Value->Option Addr->Hp->Prop
noncomputable abbrev St:=List (Option V)
noncomputable abbrev VK:=V->Hp->Prop
noncomputable abbrev TE:=St->Hp->VK->Prop
noncomputable abbrev TT:=St->Hp->(Bool->Hp->Prop)->Prop
noncomputable abbrev TA:=St->Hp->(List V->Hp->Prop)->Prop
structure Ends where
 nx:St->Hp->Prop
 rt:VK
 bk:St->Hp->Prop:=fun _ _=>False
 ct:St->Hp->Prop:=fun _ _=>False
noncomputable abbrev TS:=Ends->St->Hp->Prop
noncomputable def EP (X:Cx) (pins:List (Addr×Obj)) (σ:St) (Q:VK) (u:Value) (s':Shared):Prop:=∃ v H',Inv X pins σ H' s'/\RelV v u/\Q v H'
noncomputable def TP (X:Cx) (pins:List (Addr×Obj)) (σ:St) (Q:Bool->Hp->Prop) (b:Bool) (s':Shared):Prop:=∃ H',Inv X pins σ H' s'/\Q b H'
noncomputable def AP (X:Cx) (pins:List (Addr×Obj)) (σ:St) (Q:List V->Hp->Prop) (us:List Value) (s':Shared):Prop:=∃ vs H',Inv X pins σ H' s'/\Vals vs us/\Q vs H'
noncomputable def SP (X:Cx) (pins:List (Addr×Obj)) (D:Ends) (f:Flow) (s':Shared):Prop:=
 match f with
 | .next=>∃ σ' H',Inv X pins σ' H' s'/\D.nx σ' H'
 | .brk=>∃ σ' H',Inv X pins σ' H' s'/\D.bk σ' H'
 | .cont=>∃ σ' H',Inv X pins σ' H' s'/\D.ct σ' H'
 | .ret u=>∃ v σ' H',Inv X pins σ' H' s'/\RelV v u/\D.rt v H'
noncomputable def PE (X:Cx) (e:Expr) (t:TE):Prop:=
 ∀ (pins:List (Addr×Obj)) (s:Shared) (σ:St) (H:Hp) (Q:VK),Inv X pins σ H s->t σ H Q->wpAny (model X.prog X.w) X.A (eval e X.env) (EP X pins σ Q) X.xe s
noncomputable def PT (X:Cx) (e:Expr) (t:TT):Prop:=
 ∀ (pins:List (Addr×Obj)) (s:Shared) (σ:St) (H:Hp) (Q:Bool->Hp->Prop),Inv X pins σ H s->t σ H Q->wpAny (model X.prog X.w) X.A (isTrue e X.env (eval e X.env)) (TP X pins σ Q) X.xe s
noncomputable def PW (X:Cx) (e:Expr) (t:TT):Prop:=
 ∀ (whole:Sem Value) (pins:List (Addr×Obj)) (s:Shared) (σ:St) (H:Hp) (Q:Bool->Hp->Prop),Inv X pins σ H s->t σ H Q->wpAny (model X.prog X.w) X.A (isTrue e X.env whole) (TP X pins σ Q) X.xe s
noncomputable def PA (X:Cx) (es:List Expr) (t:TA):Prop:=
 ∀ (pos:Pos) (pins:List (Addr×Obj)) (s:Shared) (σ:St) (H:Hp) (Q:List V->Hp->Prop),Inv X pins σ H s->t σ H Q->wpAny (model X.prog X.w) X.A (spliced (backTo pos (starEach es X.env))) (AP X pins σ Q) X.xe s
noncomputable def PS (X:Cx) (st:Stmt) (t:TS):Prop:=
 ∀ (pins:List (Addr×Obj)) (s:Shared) (σ:St) (H:Hp) (D:Ends),Inv X pins σ H s->t D σ H->wpAny (model X.prog X.w) X.A (exec st X.env) (SP X pins D) X.xe s
noncomputable def PSs (X:Cx) (st:List Stmt) (t:TS):Prop:=
 ∀ (pins:List (Addr×Obj)) (s:Shared) (σ:St) (H:Hp) (D:Ends),Inv X pins σ H s->t D σ H->wpAny (model X.prog X.w) X.A (execs st X.env) (SP X pins D) X.xe s
theorem thn {α:Type} {t:Sem α} {Q Q':α->Shared->Prop} {M:Model} {A:Around} (h:wpAny M A t Q E s) (hQ:∀ a s,Q a s->Q' a s):wpAny M A t Q' E s:=wpAny_mono h hQ fun _ _ x=>x
end L2
variable {σ:L2.St} {X:L2.Cx}
namespace L2
open PySem PySem.Spec PyProof.Rows
section
noncomputable def DT (i:Nat):TE:=fun σ H Q=>∃ v,σ[i]?=some (some v)/\Q v H
noncomputable def tC (v:V):TE:=fun _ H Q=>Q v H
theorem dh (hN:X.N[i]?=some x) (hv:Vis X.env.scope x) (hd:(x==("__debug__":Str))=false:=by decide) (hcd:(x==("__classdict__":Str))=false:=by decide):PE X (.Name x pos) (DT i):=by
 intro pins s σ H Q I h
 obtain ⟨v,e,h⟩:=h
 obtain ⟨m,hn,hl⟩:=I.loc
 obtain ⟨u,r,l⟩:=hl i x v hN e hv
 have fin:EP X pins σ Q u s:=⟨v,H,I,r,h⟩
 rcases l with ⟨hk,hm⟩|⟨hk,c,hc,hcell⟩
 ·exact wpAny_Name (wpAny_loadName_local I.ok.kind hk hn hm fin) hd
 ·rcases hk with hk|hk
  ·exact wpAny_Name (wpAny_loadName_cell I.ok.kind hk hc hcell fin) hd
  ·exact wpAny_Name (wpAny_loadName_free I.ok.kind hk hc hcell fin hcd) hd
theorem Gi {i j pos}:PE X (.Constant (.int i) j pos) (tC (.int i)):=fun _ _ _ H _ I h=>wpAny_Constant_int ⟨.int i,H,I.tok _,⟨_,rfl⟩,h⟩
theorem JQ {b j pos}:PE X (.Constant (.bool b) j pos) (tC (.bl b)):=fun _ _ _ H _ I h=>Constant_bool ⟨.bl b,H,I,rfl,h⟩
theorem GI {j pos}:PE X (.Constant .none j pos) (tC .non):=fun _ _ _ H _ I h=>Constant_none ⟨.non,H,I,rfl,h⟩
theorem FU {x j pos}:PE X (.Constant (.str x) j pos) (tC (.str x)):=fun _ _ _ H _ I h=>Calls.Constant_str ⟨.str x,H,I.tok _,⟨_,rfl⟩,h⟩
noncomputable def Gl (X:Cx) (x:Str):Prop:=X.env.kindOf x=some .globalImplicit
theorem lM {Q:Value->Shared->Prop} (I:Inv X pins σ H s) (hg:Gl X x) (hm:X.mg x=some u) (h:Q u s)
 (hd:(x==("__debug__":Str))=false:=by decide):wpAny (model X.prog X.w) X.A (eval (.Name x pos) X.env) Q E s:=
 Calls.Name_function_global I.ok.kind hg (Calls.loadGlobal_global (by rw [I.ok.glob];exact I.mod.glob.keeps I.bk) hm h) hd
theorem ka {Q:Value->Shared->Prop} (I:Inv X pins σ H s) (hg:Gl X x) (hm:X.mg x=none) (hv:bootBuiltins x=some u) (h:Q u s)
 (hn:x ≠ "__name__":=by decide) (hd:(x==("__debug__":Str))=false:=by decide):wpAny (model X.prog X.w) X.A (eval (.Name x pos) X.env) Q E s:=by
 obtain ⟨mb,h1,h2⟩:=I.mod.blt
 exact Calls.Name_function_global I.ok.kind hg (Calls.loadGlobal_builtin (by rw [I.ok.glob];exact I.mod.glob.keeps I.bk) hm (by rw [I.ok.blt];exact h1.keeps I.bk) ((h2 x hn).trans hv) h) hd
theorem ou (hg:Gl X x) (hm:X.mg x=some u) (r:RelV v u) (hd:(x==("__debug__":Str))=false:=by decide):PE X (.Name x pos) (tC v):=
 fun _ _ _ H _ I h=>lM I hg hm ⟨v,H,I,r,h⟩ hd
theorem CL (hg:Gl X x) (hm:X.mg x=none) (hv:bootBuiltins x=some u) (r:RelV v u) (hn:x ≠ "__name__":=by decide) (hd:(x==("__debug__":Str))=false:=by decide):PE X (.Name x pos) (tC v):=
 fun _ _ _ H _ I h=>ka I hg hm hv ⟨v,H,I,r,h⟩ hn hd
variable {a b:Expr} {ta tb:TE}
variable {tA tB':TT} {di:List Expr}
noncomputable def tOr (t u:TT):TT:=fun σ H Q=>t σ H fun c H1=>if c=true then Q true H1 else u σ H1 Q
noncomputable def KK (t:TT):TT:=fun σ H Q=>t σ H fun c H1=>Q (!c) H1
theorem GW (ha:PT X a tA):PW X (.BoolOp .Or [a] pos) tA:=by
 intro wh pins s σ H Q I h
 refine isTrue_or (thn (ha pins s σ H Q I h) fun c s1 e=>?_)
 cases c with
 | false=>exact isTrue_or_nil e
 | true=>exact e
theorem Jn (ha:PT X a tA) (hb:PW X (.BoolOp .Or (b::di) pos) tB'):PW X (.BoolOp .Or (a::b::di) pos) (tOr tA tB'):=by
 intro wh pins s σ H Q I h
 refine isTrue_or (thn (ha pins s σ H _ I h) fun c s1 ⟨H1,I1,q1⟩=>?_)
 cases c with
 | true=>exact ⟨H1,I1,q1⟩
 | false=>exact hb wh pins s1 σ H1 Q I1 q1
theorem FN (ha:PT X a tA):PT X (.UnaryOp .Not a pos) (KK tA):=by
 intro pins s σ H Q I h
 exact isTrue_not (ha pins s σ H (fun c H1=>Q (!c) H1) I h)
noncomputable def IH (ta tb:TE):TE:=fun σ H Q=>ta σ H fun x H1=>∃ c,x=.bl c/\if c=true then tb σ H1 Q else Q (.bl false) H1
noncomputable def Kv (ta tb:TE):TE:=fun σ H Q=>ta σ H fun x H1=>∃ c,x=.bl c/\if c=true then Q (.bl true) H1 else tb σ H1 Q
noncomputable def Iy (ta:TE):TE:=fun σ H Q=>ta σ H fun x H1=>∃ c,x=.bl c/\Q (.bl (!c)) H1
theorem Go {op} {t:TE} (h:PE X a t):PE X (.BoolOp op [a] pos) t:=fun pins s σ H Q I hw=>BoolOp_one (h pins s σ H Q I hw)
theorem Fq (ha:PE X a ta) (hb:PE X (.BoolOp .And (b::di) pos) tb):PE X (.BoolOp .And (a::b::di) pos) (IH ta tb):=by
 intro pins s σ H Q I h
 refine BoolOp_and (thn (ha pins s σ H _ I h) fun v s1 ⟨x,H1,I1,r1,q1⟩=>?_)
 obtain ⟨c,rfl,q1⟩:=q1
 cases r1
 refine wpAny_truthy_bool ?_
 cases c with
 | true=>exact hb pins s1 σ H1 Q I1 q1
 | false=>exact ⟨.bl false,H1,I1,rfl,q1⟩
theorem Jk (ha:PE X a ta) (hb:PE X (.BoolOp .Or (b::di) pos) tb):PE X (.BoolOp .Or (a::b::di) pos) (Kv ta tb):=by
 intro pins s σ H Q I h
 refine BoolOp_or (thn (ha pins s σ H _ I h) fun v s1 ⟨x,H1,I1,r1,q1⟩=>?_)
 obtain ⟨c,rfl,q1⟩:=q1
 cases r1
 refine wpAny_truthy_bool ?_
 cases c with
 | false=>exact hb pins s1 σ H1 Q I1 q1
 | true=>exact ⟨.bl true,H1,I1,rfl,q1⟩
theorem GN (ha:PE X a ta):PE X (.UnaryOp .Not a pos) (Iy ta):=by
 intro pins s σ H Q I h
 refine UnaryOp_ (thn (ha pins s σ H _ I h) fun v s1 ⟨x,H1,I1,r1,q1⟩=>?_)
 obtain ⟨c,rfl,q1⟩:=q1
 cases r1
 exact not_of (wpAny_truthy_bool ⟨.bl (!c),H1,I1,rfl,q1⟩)
noncomputable def tIf (t:TT) (ta tb:TE):TE:=fun σ H Q=>t σ H fun c H1=>if c=true then ta σ H1 Q else tb σ H1 Q
theorem zW {c:Expr} (hc:PT X c tA) (ha:PE X a ta) (hb:PE X b tb):PE X (.IfExp c a b pos) (tIf tA ta tb):=by
 intro pins s σ H Q I h
 refine wpAny_IfExp (thn (hc pins s σ H _ I h) fun d s1 ⟨H1,I1,q1⟩=>?_)
 cases d with
 | true=>exact ha pins s1 σ H1 Q I1 q1
 | false=>exact hb pins s1 σ H1 Q I1 q1
end
noncomputable def SqL (K:W.Frag) (H:Hp) (a:Addr) (xs:List V):Prop:=
 Rd H a (.lst xs)\/
  ∃ (o:Obj) (its:Array Value) (n:Nat),K.lookup a=some o/\o.cls=.type "list"/\o.dict=none/\o.data=.seq its n/\its.size<=sizeLine/\Vals xs its.toList
noncomputable def SqT (K:W.Frag) (H:Hp) (a:Addr) (xs:List V):Prop:=
 Rd H a (.tup xs)\/
  ∃ (o:Obj) (its:Array Value) (n:Nat),K.lookup a=some o/\o.cls=.type "tuple"/\o.data=.seq its n/\its.size<=sizeLine/\Vals xs its.toList
noncomputable def Lg:Value->Option V
 | .none=>some .non
 | .bool b=>some (.bl b)
 | .int i _=>some (.int i)
 | .str x _=>some (.str x)
 | .bytes b _=>some (.byt b)
 | .float b _=>some (.flt b)
 | .ref a=>some (.ref a)
 | .type n=>some (.ty n)
 | _=>none
theorem RelV.abs {x:V} (r:RelV x u):Lg u=some x:=by
 cases x with
 | non=>cases r;rfl
 | bl _=>cases r;rfl
 | int _=>obtain ⟨t,rfl⟩:=r;rfl
 | str _=>obtain ⟨t,rfl⟩:=r;rfl
 | byt _=>obtain ⟨t,rfl⟩:=r;rfl
 | flt _=>obtain ⟨t,rfl⟩:=r;rfl
 | ref _=>cases r;rfl
 | ty _=>cases r;rfl
theorem RelV.inj {x y:V} (r:RelV x u) (q:RelV y u):x=y:=Option.some.inj (r.abs.symm.trans q.abs)
theorem Vals.inj:∀ {xs ys:List V} {us:List Value},Vals xs us->Vals ys us->xs=ys
 | _,_,_,.nil,.nil=>rfl
 | _,_,_,.cons r t,.cons r' t'=>by rw [r.inj r',Vals.inj t t']
section
variable {ys:List V}
theorem SqL.of {K:W.Frag} (h:H a=some (.lst xs)):SqL K H a xs:=.inl (.inl h)
theorem SqT.of {K:W.Frag} (h:H a=some (.tup xs)):SqT K H a xs:=.inl (.inl h)
theorem Inv.list (I:Inv X pins σ H s) (h:SqL X.K H a xs):∃ its:List Value,Vals xs its/\PlainL s.heap a its.toArray/\xs.length<=sizeLine:=by
 rcases h with h|⟨o,its,n,hk,hc,hd,hs,hz,r⟩
 ·obtain ⟨z,its,n,r,e⟩:=h.ok I.hok
  exact ⟨its,r,⟨_,n,e,rfl,rfl,rfl⟩,z⟩
 ·refine ⟨its.toList,r,⟨o,n,I.kIn a o hk,hc,hd,by simpa using hs⟩,?_⟩
  have e:=r.length
  simp only [Array.length_toList] at e
  omega
theorem Inv.tuple (I:Inv X pins σ H s) (h:SqT X.K H a xs):∃ its:List Value,Vals xs its/\IsTup s.heap a its.toArray/\xs.length<=sizeLine:=by
 rcases h with h|⟨o,its,n,hk,hc,hs,hz,r⟩
 ·obtain ⟨z,its,r,p⟩:=h.ok I.hok
  exact ⟨its,r,p,z⟩
 ·refine ⟨its.toList,r,⟨o,I.kIn a o hk,hc,n,by simpa using hs⟩,?_⟩
  have e:=r.length
  simp only [Array.length_toList] at e
  omega
theorem Inv.list_inj (I:Inv X pins σ H s) (h:SqL X.K H a xs) (h':SqL X.K H a ys):xs=ys:=by
 obtain ⟨its,r,⟨o,n,e,_,_,d⟩,_⟩:=I.list h
 obtain ⟨its',r',⟨o',n',e',_,_,d'⟩,_⟩:=I.list h'
 rw [e] at e';cases e'
 rw [d] at d'
 injection d' with d1 _
 have:its=its':=by simpa using congrArg Array.toList d1
 subst this
 exact r.inj r'
theorem Inv.tuple_inj (I:Inv X pins σ H s) (h:SqT X.K H a xs) (h':SqT X.K H a ys):xs=ys:=by
 obtain ⟨its,r,⟨o,e,_,n,d⟩,_⟩:=I.tuple h
 obtain ⟨its',r',⟨o',e',_,n',d'⟩,_⟩:=I.tuple h'
 rw [e] at e';cases e'
 rw [d] at d'
 injection d' with d1 _
 have:its=its':=by simpa using congrArg Array.toList d1
 subst this
 exact r.inj r'
end
noncomputable abbrev Cx.wish (X:Cx) (E:Value->Shared->Prop):Cx:={ X with xe:=E }
section
variable {di:List Stmt} {t u:TS} {e:Expr} {te:TE}
noncomputable def Im:TS:=fun D σ H=>D.nx σ H
noncomputable def Lp (t u:TS):TS:=fun D σ H=>t { D with nx:=u D } σ H
theorem D1:PSs X [] Im:=fun _ _ σ H _ I h=>wpAny_execs_nil ⟨σ,H,I,h⟩
theorem iH (h1:PS X st t) (h2:PSs X di u):PSs X (st::di) (Lp t u):=by
 intro pins s σ H D I h
 refine wpAny_execs_cons (thn (h1 pins s σ H { D with nx:=u D } I h) fun f s1 q=>?_)
 cases f with
 | next=>
  obtain ⟨σ',H',I',q⟩:=q
  exact h2 pins s1 σ' H' D I' q
 | ret v=>exact q
 | brk=>exact q
 | cont=>exact q
theorem Inv.quiet (I:Inv X pins σ H s):interactive X.env=false:=by simp [interactive,I.ok.kind]
noncomputable def HK (te:TE):TS:=fun D σ H=>te σ H fun _ H1=>D.nx σ H1
theorem jx (he:PE X e te) (hs:swapsWith e none pos.line X.env=pure false:=by rfl):PS X (.Expr e pos) (HK te):=by
 intro pins s σ H D I h
 exact wpAny_Expr_any (thn (he pins s σ H _ I h) fun v s1 ⟨x,H1,I1,r1,q1⟩=>⟨σ,H1,I1,q1⟩) I.quiet hs
noncomputable def KY (te:TE):TS:=fun D σ H=>te σ H D.rt
theorem yu (he:PE X e te):PS X (.Return (some e) pos) (KY te):=by
 intro pins s σ H D I h
 exact wpAny_Return_some (thn (he pins s σ H _ I h) fun v s1 ⟨x,H1,I1,r1,q1⟩=>⟨x,σ,H1,I1,r1,q1⟩)
noncomputable def Ks (c:TT) (t u:TS):TS:=fun D σ H=>c σ H fun b H1=>if b=true then t D σ H1 else u D σ H1
theorem IJ {c:Expr} {a b:List Stmt} {tc:TT} (hc:PT X c tc) (ha:PSs X a t) (hb:PSs X b u):PS X (.If c a b pos) (Ks tc t u):=by
 intro pins s σ H D I h
 refine wpAny_If (thn (hc pins s σ H _ I h) fun d s1 ⟨H1,I1,q1⟩=>?_)
 cases d with
 | true=>exact ha pins s1 σ H1 D I1 q1
 | false=>exact hb pins s1 σ H1 D I1 q1
end
noncomputable abbrev TG:=V->St->Hp->(St->Hp->Prop)->Prop
noncomputable abbrev TGs:=List V->St->Hp->(St->Hp->Prop)->Prop
noncomputable def PG (X:Cx) (target:Expr) (t:TG):Prop:=
 ∀ (pins:List (Addr×Obj)) (s:Shared) (σ:St) (H:Hp) (v:V) (u:Value) (Q:St->Hp->Prop),Inv X pins σ H s->RelV v u->t v σ H Q->
  wpAny (model X.prog X.w) X.A (assign target X.env u) (fun _ s'=>∃ σ' H',Inv X pins σ' H' s'/\Q σ' H') X.xe s
noncomputable def PGs (X:Cx) (ts:List Expr) (t:TGs):Prop:=
 ∀ (pins:List (Addr×Obj)) (s:Shared) (σ:St) (H:Hp) (vs:List V) (us:List Value) (Q:St->Hp->Prop),Inv X pins σ H s->Vals vs us->t vs σ H Q->
  wpAny (model X.prog X.w) X.A (assignInOrder ((assignEach ts X.env).map (·.2)) us) (fun _ s'=>∃ σ' H',Inv X pins σ' H' s'/\Q σ' H') X.xe s
noncomputable abbrev HB:=V->V->V->Hp->(Hp->Prop)->Prop
noncomputable def Jb (X:Cx) (t:HB):Prop:=
 ∀ (pins:List (Addr×Obj)) (s:Shared) (σ:St) (H:Hp) (o i v:V) (ov iv u:Value) (Q:Hp->Prop),Inv X pins σ H s->RelV o ov->RelV i iv->RelV v u->t o i v H Q->
  wpAny (model X.prog X.w) X.A (setItem ov iv u) (fun _ s'=>∃ H',Inv X pins σ H' s'/\Q H') X.xe s
section
noncomputable def JS (i:Nat):TG:=fun v σ H Q=>Q (σ.set i (some v)) H
theorem gy (hN:X.N.Nodup) (hi:X.N[i]?=some x) (hx:Loc X.env.scope x) (hf:X.fn x=true\/X.env.scope.names.lookup x=some .local:=by first|exact .inl rfl|exact .inr rfl|assumption):PG X (.Name x pos) (JS i):=by
 intro pins s σ H v u Q I r h
 exact wpAny_assign_Name (nG I hN hi hx r (fun s' I'=>⟨_,H,I',h⟩) hf)
noncomputable def Kw:TGs:=fun vs σ H Q=>vs=[]/\Q σ H
noncomputable def IW (t:TG) (u:TGs):TGs:=fun vs σ H Q=>∃ v r,vs=v::r/\t v σ H fun σ' H'=>u r σ' H' Q
theorem Ci:PGs X [] Kw:=by
 intro pins s σ H vs us Q I r h
 obtain ⟨e,h⟩:=h
 subst e
 cases r
 exact assignInOrder_nil ⟨σ,H,I,h⟩
theorem Ag {e:Expr} {t:TG} {u:TGs} (h1:PG X e t) (h2:PGs X es u)
 (hs:(assignEach (e::es) X.env).map (·.2)=assign e X.env::(assignEach es X.env).map (·.2):=by rfl):PGs X (e::es) (IW t u):=by
 intro pins s σ H vs us Q I r h
 obtain ⟨v,vr,e1,h⟩:=h
 subst e1
 cases r with
 | cons r rr=>
  rw [hs]
  refine assignInOrder_cons (thn (h1 pins s σ H _ _ _ I r h) fun _ s1 ⟨σ1,H1,I1,q1⟩=>?_)
  exact h2 pins s1 σ1 H1 _ _ Q I1 rr q1
noncomputable def LC (K:W.Frag) (n:Nat) (t:TGs):TG:=fun v σ H Q=>∃ a xs,v=.ref a/\SqT K H a xs/\xs.length=n/\t xs σ H Q
theorem Gx {t:TGs} {n:Nat} (hc:X.calm=true) (h:PGs X es t)
 (hn:(assignEach es X.env).length=n:=by rfl) (hst:(assignEach es X.env).findIdx? (·.1)=none:=by rfl):PG X (.Tuple es k pos) (LC X.K n t):=by
 intro pins s σ H v u Q I r hw
 obtain ⟨a,xs,e1,hq,hl,hw⟩:=hw
 subst e1
 cases r
 obtain ⟨its,rv,ht,hz⟩:=I.tuple hq
 refine assign_Tuple_tuple (I.ok.hd hc) ht (by simp [hn,<- hl,rv.length]) hst fun h' hx=>?_
 have I1:Inv X pins σ H { s with heap:=h' }:=I.kept (t':=s.toks) fun b o e=>hx b o (Nat.ne_of_lt (Heap.lt_size e)) e
 exact h pins _ σ H xs _ Q I1 (by simpa using rv) hw
noncomputable def Jz (to ti:TE) (t:HB):TG:=fun v σ H Q=>to σ H fun o H1=>ti σ H1 fun i H2=>t o i v H2 fun H3=>Q σ H3
theorem B1 {o i:Expr} {to ti:TE} {t:HB} (ho:PE X o to) (hi:PE X i ti) (hs:Jb X t)
 (ha:∀ v,assign (.Subscript o i pos) X.env v=(do
 let ov <- holding [v] (eval o X.env)
 let iv <- holding [v,ov] (eval i X.env)
 standAt pos
 holding [v,ov,iv] (setItem ov iv v)
 release [v,ov,iv] []):=by intro _;rfl):PG X (.Subscript o i pos) (Jz to ti t):=by
 intro pins s σ H v u Q I r h
 rw [ha]
 refine wpAny_bind (wpAny_holding (thn (ho pins s σ H _ I h) fun ov s1 ⟨x,H1,I1,r1,q1⟩=>?_))
 refine wpAny_bind (wpAny_holding (thn (hi pins s1 σ H1 _ I1 q1) fun iv s2 ⟨y,H2,I2,r2,q2⟩=>?_))
 refine wpAny_bind (wpAny_standAt (wpAny_bind (wpAny_holding (thn (hs pins s2 σ H2 x y v ov iv u _ I2 r1 r2 r q2) fun _ s3 ⟨H3,I3,q3⟩=>?_))))
 exact wpAny_release ⟨σ,H3,I3,q3⟩
noncomputable def K4 (te:TE) (g:TG):TS:=fun D σ H=>te σ H fun x H1=>g x σ H1 D.nx
theorem jc {tg e:Expr} {te:TE} {g:TG} (he:PE X e te) (hg:PG X tg g) (hs:swapsWithSole [tg] e pos.line X.env=pure false:=by rfl) (hw:swappedStores [tg] e X.env=pure none:=by rfl)
 (h1:(assignEach [tg] X.env).map (·.2)=[assign tg X.env]:=by rfl):PS X (.Assign [tg] e pos) (K4 te g):=by
 intro pins s σ H D I h
 refine wpAny_Assign_stores (thn (he pins s σ H _ I h) fun v s1 ⟨x,H1,I1,r1,q1⟩=>?_) hs hw
 rw [h1]
 exact thn (hg pins s1 σ H1 x v _ I1 r1 q1) fun _ s2 q=>q
noncomputable def LP (i j:Nat) (ta:TA):TS:=fun D σ H=>ta σ H fun vs H1=>∃ v w,vs=[v,w]/\D.nx ((σ.set i (some v)).set j (some w)) H1
theorem EJ {a b:Expr} {ta:TA} {px py pt:Pos} {kt k2 pt2} (hc:X.calm=true) (hN:X.N.Nodup) (hi:X.N[i]?=some x) (hj:X.N[j]?=some y) (hij:i≠j)
 (hx:X.env.scope.names.lookup x=some .local) (hy:X.env.scope.names.lookup y=some .local) (ha:PA X [a,b] ta)
 (hw:swappedStores [.Tuple [.Name x px,.Name y py] kt pt] (.Tuple [a,b] k2 pt2) X.env=pure (some [x,y]))
 (hs:swapsWithSole [.Tuple [.Name x px,.Name y py] kt pt] (.Tuple [a,b] k2 pt2) pos.line X.env=pure false:=by rfl) :
  PS X (.Assign [.Tuple [.Name x px,.Name y py] kt pt] (.Tuple [a,b] k2 pt2) pos) (LP i j ta):=by
 intro pins s σ H D I h
 rw [exec_Assign_arm]
 refine wpAny_bind (wpAny_standAt ?_)
 rw [hs]
 refine wpAny_bind (wpAny_pure ?_)
 rw [if_neg (by decide)]
 refine wpAny_bind (Tuple_ (thn (ha _ pins s σ H _ I h) fun us s1 ⟨vs,H1,I1,r1,q1⟩=>?_))
 obtain ⟨v,w,e1,q1⟩:=q1
 subst e1
 obtain ⟨u1,u2,rfl,rv,rw'⟩:∃ u1 u2,us=[u1,u2]/\RelV v u1/\RelV w u2:=by
  cases r1 with
  | cons p q=>
   cases q with
   | cons p' q'=>
    cases q'
    exact ⟨_,_,rfl,p,p'⟩
 refine wpAny_newObj_type ?_ (by show 2<=sizeLine;decide)
 have I2:Inv X pins σ H1 { s1 with heap:=s1.heap.push { cls:=.type "tuple",data:=.seq [u1,u2].toArray } }:=I1.kept (t':=s1.toks) fun b o e=>Heap.get?_push_of_some _ e
 rw [hw]
 refine wpAny_bind (wpAny_pure ?_)
 show wpAny (model X.prog X.w) X.A (do rule "assign.swapped-stores";let items <- unpackItems (.ref s1.heap.objs.size) 2 none;assignInOrder [fun v=>bindName X.env y v,fun v=>bindName X.env x v] items.reverse;pure Flow.next) _ _ _
 refine wpAny_bind (wpAny_rule (wpAny_bind (unpackItems_tuple (items:=#[u1,u2]) (I.ok.hd hc) (IsTup.new s1.heap _) fun h' hx'=>?_)))
 have I3:=I2.kept (h':=h') (t':=s1.toks) fun b o e=>hx' b o (Nat.ne_of_lt (Heap.lt_size e)) e
 show wpAny _ _ (assignInOrder [fun v=>bindName X.env y v,fun v=>bindName X.env x v] [u2,u1]>>=fun _=>pure Flow.next) _ _ _
 refine wpAny_bind (assignInOrder_cons (wpAny_bindName (nG I3 hN hj (.inl hy) rw' (fun s2 I4=>?_) (.inr hy))))
 refine assignInOrder_cons (wpAny_bindName (nG I4 hN hi (.inl hx) rv (fun s3 I5=>assignInOrder_nil (wpAny_pure ?_)) (.inr hx)))
 rw [List.set_comm _ _ (Ne.symm hij)] at I5
 exact ⟨_,H1,I5,q1⟩
end
structure It where
 go:Nat->Hp->Prop
 yld:Nat->Hp->V->Hp->Prop
 stop:Nat->Hp->Prop
noncomputable def mE (X:Cx) (pins:List (Addr×Obj)) (H:Hp) (b:Addr):Prop:=
 H b=none/\b≠X.env.locals/\b ∉ X.fs/\(b∈X.ex\/X.s₀.heap.objs.size<=b)/\(∀ x c,X.env.cells.lookup x=some c->c≠b)/\∀ p∈X.pn++pins,p.1≠b
theorem Inv.fpOk (I:Inv X pins σ H s) (hb:s.heap.objs.size<=b) (hn:H' b=none):mE X pins H' b:=by
 refine ⟨hn,Nat.ne_of_gt (Nat.lt_of_lt_of_le I.lt hb),I.nofs hb,.inr (Nat.le_trans I.sz hb),fun x c e z=>?_,fun p hp z=>?_⟩
 ·obtain ⟨v,q⟩:=I.cell x c e
  exact absurd (Nat.lt_of_lt_of_le q.lt (by rw [z];exact hb)) (Nat.lt_irrefl _)
 ·exact absurd (Nat.lt_of_lt_of_le (Heap.lt_size (I.pin p hp).1) (by rw [z];exact hb)) (Nat.lt_irrefl _)
structure Turn (P:Program) (w:World) (K:W.Frag) (tg:Expr) (J:It) (fp:List Addr) (it:Addr) (tn:Nat->Heap->Prop):Prop where
 mem:it∈fp
 obj:∀ i h,tn i h->∀ b∈fp,∃ o,h.get? b=some o/\∀ v,o.data ≠ .cell v
 keep:∀ i h h',tn i h->(∀ b∈fp,∀ o,h.get? b=some o->h'.get? b=some o)->tn i h'
 item:∀ (X:Cx),X.prog=P->X.w=w->X.K=K->X.calm=true->∀ (i:Nat) (pins:List (Addr×Obj)) (s:Shared) (σ:St) (H:Hp) (E:Value->Shared->Prop),Inv X pins σ H s->(∀ b∈fp,mE X pins H b)->tn i s.heap->J.go i H->
  wpAny (model P w) X.A (pyNext (.ref it)) (fun r s1=>∃ u,r=some u/\
   wpAny (model P w) X.A (letOwnedTupleGo tg (.ref it) u) (fun _ s2=>∃ x H',Inv X pins σ H' s2/\RelV x u/\J.yld i H x H'/\tn (i+1) s2.heap/\∀ b∈fp,H' b=none) E s1) E s
 done:∀ (X:Cx),X.prog=P->X.w=w->X.K=K->X.calm=true->∀ (i:Nat) (pins:List (Addr×Obj)) (s:Shared) (σ:St) (H:Hp) (E:Value->Shared->Prop),Inv X pins σ H s->(∀ b∈fp,mE X pins H b)->tn i s.heap->J.stop i H->
  wpAny (model P w) X.A (pyNext (.ref it)) (fun r s1=>r=none/\Inv X pins σ H s1) E s
 self:∀ (A:Around) (i:Nat) (s:Shared) (Q:Value->Shared->Prop) (E:Value->Shared->Prop),tn i s.heap->Q (.ref it) s->wpAny (model P w) A (pyIter (.ref it)) Q E s
noncomputable abbrev TI:=St->Hp->(It->Hp->Prop)->Prop
noncomputable def PIE (X:Cx) (pins:List (Addr×Obj)) (σ:St) (tg:Expr) (R:It->Hp->Prop) (itv:Value) (s2:Shared):Prop:=
 ∃ (it:Addr) (fp:List Addr) (tn:Nat->Heap->Prop) (J:It) (H':Hp),itv=.ref it/\Inv X pins σ H' s2/\Turn X.prog X.w X.K tg J fp it tn/\tn 0 s2.heap/\(∀ b∈fp,mE X pins H' b)/\R J H'
noncomputable def PI (X:Cx) (tg iter:Expr) (wi:TI):Prop:=
 ∀ (pins:List (Addr×Obj)) (s:Shared) (σ:St) (H:Hp) (R:It->Hp->Prop),Inv X pins σ H s->wi σ H R->
  wpAny (model X.prog X.w) X.A (eval iter X.env) (fun v s1=>wpAny (model X.prog X.w) X.A (pyIter v) (PIE X pins σ tg R) X.xe s1) X.xe s
theorem wt {M : Model} {A : Around} {tg : Expr} {o : Obj} {n : String} {vs : Array Value} {Q : Unit -> Shared -> Prop} (ho : s.heap.get? it = some o) (hc : o.cls = .type n) (hd : o.data = .fields vs)
 (hn : ["enumerate", "zip", "dict_itemiterator", "dict_reverseitemiterator", "odict_iterator", "itertools.zip_longest", "itertools.pairwise"].contains n = false) (hQ : Q () s) : wpAny M A (letOwnedTupleGo tg (.ref it) u) Q E s := by
  unfold letOwnedTupleGo
  cases tg <;> first
    | exact wpAny_pure hQ
    | (cases u <;> first
        | exact wpAny_pure hQ
        | (refine wpAny_bind (wpAny_load ho ?_)
           rw [hc, hd]
           show wpAny M A (if (["enumerate", "zip", "dict_itemiterator", "dict_reverseitemiterator", "odict_iterator", "itertools.zip_longest", "itertools.pairwise"].contains n && vs[0]? == some (rawInt _)) = true then _ else _) Q E s
           rw [if_neg (by intro h; rw [hn, Bool.false_and] at h; cases h)]
           exact wpAny_pure hQ))

noncomputable def Itl (K:W.Frag) (a:Addr):It:=
 ⟨fun i H=>∃ xs x,SqL K H a xs/\xs[i]?=some x,fun i H x H'=>H'=H/\∀ xs,SqL K H a xs->xs[i]?=some x,fun i H=>∃ xs,SqL K H a xs/\xs.length<=i⟩
noncomputable def Itt (K:W.Frag) (a:Addr):It:=
 ⟨fun i H=>∃ xs x,SqT K H a xs/\xs[i]?=some x,fun i H x H'=>H'=H/\∀ xs,SqT K H a xs->xs[i]?=some x,fun i H=>∃ xs,SqT K H a xs/\xs.length<=i⟩
noncomputable def Itr (lo:Int) (n:Nat):It:=⟨fun i _=>i<n,fun i H x H'=>H'=H/\x=.int (lo+i),fun i _=>n<=i⟩
theorem yn {w:World} {K:W.Frag} {tg:Expr} (a it:Addr):Turn P w K tg (Itl K a) [it] it (fun i h=>h.IsListIter it a i) where
 mem:=by simp
 obj:=fun i h st b hb=>by
  have e:b=it:=by simpa using hb
  subst e
  obtain ⟨o,e,c,d⟩:=st
  exact ⟨o,e,fun v z=>by rw [d] at z;cases z⟩
 keep:=fun i h h' st k=>st.at fun o e=>k it (by simp) o e
 item:=by
  intro X hP hw hK hc i pins s σ H E I hf st hg
  subst hP hw hK
  obtain ⟨xs,x,hq,hx⟩:=hg
  obtain ⟨its,rv,p,hz⟩:=I.list hq
  obtain ⟨u,hu,ru⟩:=rv.get hx
  obtain ⟨f0,f1,f2,f3,f4,f5⟩:=hf it (by simp)
  refine wpAny_pyNext_list_item st p.isList (x:=u) (by simpa using hu) fun h' st' sb=>?_
  have I1:Inv X pins σ H { s with heap:=h' }:=I.turned (t':=s.toks) (fun b o hb e=>(sb.2 b hb).trans e) f0 f1 f3 f4 f5
  obtain ⟨o,e,c,d⟩:=id st'
  exact ⟨u,rfl,wt (s:={ s with heap:=h' }) e c d (by decide) ⟨x,H,I1,ru,⟨rfl,fun ys hy=>by rw [I.list_inj hy hq];exact hx⟩,st',fun b hb=>(hf b hb).1⟩⟩
 done:=by
  intro X hP hw hK hc i pins s σ H E I hf st hg
  subst hP hw hK
  obtain ⟨xs,hq,hx⟩:=hg
  obtain ⟨its,rv,p,hz⟩:=I.list hq
  obtain ⟨f0,f1,f2,f3,f4,f5⟩:=hf it (by simp)
  have hl:=rv.length
  exact wpAny_pyNext_list_end (I.ok.hd hc) st p.isList (by simp;omega) fun h' eb=>⟨rfl,I.turned (t':=s.toks) (fun b o hb e=>eb b o hb e) f0 f1 f3 f4 f5⟩
 self:=fun _ _ _ _ _ st h=>wpAny_pyIter_listiter st h
theorem vE {w:World} {K:W.Frag} {tg:Expr} (a it:Addr):Turn P w K tg (Itt K a) [it] it (fun i h=>h.IsTupleIter it a i) where
 mem:=by simp
 obj:=fun i h st b hb=>by
  have e:b=it:=by simpa using hb
  subst e
  obtain ⟨o,e,c,d⟩:=st
  exact ⟨o,e,fun v z=>by rw [d] at z;cases z⟩
 keep:=fun i h h' st k=>st.at fun o e=>k it (by simp) o e
 item:=by
  intro X hP hw hK hc i pins s σ H E I hf st hg
  subst hP hw hK
  obtain ⟨xs,x,hq,hx⟩:=hg
  obtain ⟨its,rv,p,hz⟩:=I.tuple hq
  obtain ⟨u,hu,ru⟩:=rv.get hx
  obtain ⟨f0,f1,f2,f3,f4,f5⟩:=hf it (by simp)
  refine wpAny_pyNext_tuple_item st (show s.heap.IsTuple a its.toArray from p) (x:=u) (by simpa using hu) fun h' st' sb=>?_
  have I1:Inv X pins σ H { s with heap:=h' }:=I.turned (t':=s.toks) (fun b o hb e=>(sb.2 b hb).trans e) f0 f1 f3 f4 f5
  obtain ⟨o,e,c,d⟩:=id st'
  exact ⟨u,rfl,wt (s:={ s with heap:=h' }) e c d (by decide) ⟨x,H,I1,ru,⟨rfl,fun ys hy=>by rw [I.tuple_inj hy hq];exact hx⟩,st',fun b hb=>(hf b hb).1⟩⟩
 done:=by
  intro X hP hw hK hc i pins s σ H E I hf st hg
  subst hP hw hK
  obtain ⟨xs,hq,hx⟩:=hg
  obtain ⟨its,rv,p,hz⟩:=I.tuple hq
  obtain ⟨f0,f1,f2,f3,f4,f5⟩:=hf it (by simp)
  have hl:=rv.length
  exact wpAny_pyNext_tuple_end (I.ok.hd hc) st (show s.heap.IsTuple a its.toArray from p) (by simp;omega) fun h' eb=>⟨rfl,I.turned (t':=s.toks) (fun b o hb e=>eb b o hb e) f0 f1 f3 f4 f5⟩
 self:=fun _ _ _ _ _ st h=>wpAny_pyIter_tupleiter st h
theorem uN {w:World} {K:W.Frag} {tg:Expr} (it:Addr) (lo:Int) (n:Nat):Turn P w K tg (Itr lo n) [it] it (fun i h=>IsRangeIter h it (lo+(i:Nat) * 1) ((n:Int) - (i:Nat)) 1) where
 mem:=by simp
 obj:=fun i h st b hb=>by
  have e:b=it:=by simpa using hb
  subst e
  exact ⟨_,st,fun v z=>by
   have z':Data.fields _=Data.cell v:=z
   cases z'⟩
 keep:=fun i h h' st k=>k it (by simp) _ st
 item:=by
  intro X hP hw hK hc i pins s σ H E I hf st hg
  subst hP hw hK
  obtain ⟨f0,f1,f2,f3,f4,f5⟩:=hf it (by simp)
  have W:=Walks.range (prog:=X.prog) (w:=X.w) (I.ok.hd hc) it lo 1 n
  refine W.item i s _ _ hg st fun v h' tk hv st' kk=>?_
  obtain ⟨t,rfl⟩:=hv
  have I1:Inv X pins σ H { s with heap:=h',toks:=tk }:=I.turned (fun b o hb e=>kk b o (by simpa using hb) e) f0 f1 f3 f4 f5
  refine ⟨_,rfl,wt (s:={ s with heap:=h',toks:=tk }) (n:="range_iterator") st' rfl rfl (by decide) ⟨.int (lo+i),H,I1,⟨t,?_⟩,⟨rfl,rfl⟩,st',fun b hb=>(hf b hb).1⟩⟩
  rw [Int.mul_one]
 done:=by
  intro X hP hw hK hc i pins s σ H E I hf st hg
  subst hP hw hK
  obtain ⟨f0,f1,f2,f3,f4,f5⟩:=hf it (by simp)
  exact wpAny_pyNext_range_end (I.ok.hd hc) st (by have:n<=i:=hg;omega) fun h' eb=>⟨rfl,I.turned (t':=s.toks) (fun b o hb e=>eb b o hb e) f0 f1 f3 f4 f5⟩
 self:=fun _ _ _ _ _ st h=>wpAny_pyIter_rangeiter st h
section
variable {tg:Expr}
theorem uA {R:It->Hp->Prop} {lo hi:Int} {t u v:Tok} {tk:Nat} (I:Inv X pins σ H s) (h1 : -(2 ^ 62)<=lo) (h2:lo<2 ^ 62) (h3 : -(2 ^ 62)<=hi) (h4:hi<2 ^ 62)
 (q:R (Itr lo (hi - lo).toNat) H):wpAny (model X.prog X.w) X.A (pyIter (.ref s.heap.objs.size)) (PIE X pins σ tg R) E { s with heap:=s.heap.push { cls:=.type "range",data:=.fields #[.int lo t,.int hi u,.int 1 v] },toks:=tk }:=by
 refine wpAny_pyIter_range (IsRange.new ..) (small_one h1 h2 h3 h4) ?_
 have I1:Inv X pins σ H { s with heap:=s.heap.push { cls:=.type "range",data:=.fields #[.int lo t,.int hi u,.int 1 v] },toks:=tk }:=I.kept fun b o e=>Heap.get?_push_of_some _ e
 refine ⟨(s.heap.push { cls:=.type "range",data:=.fields #[.int lo t,.int hi u,.int 1 v] }).objs.size,[(s.heap.push { cls:=.type "range",data:=.fields #[.int lo t,.int hi u,.int 1 v] }).objs.size],_,_,H,rfl,
  I1.kept (t':=tk) fun b o e=>Heap.get?_push_of_some _ e,uN _ lo (hi - lo).toNat,?_,fun b hb=>?_,q⟩
 ·have e1:lo+((0:Nat):Int) * 1=lo:=by simp
  have e2:(((hi - lo).toNat:Nat):Int) - ((0:Nat):Int)=Builtin.Range.rangeSize lo hi 1:=by rw [rangeSize_one];split <;> omega
  show IsRangeIter _ _ (lo+((0:Nat):Int) * 1) ((((hi - lo).toNat:Nat):Int) - ((0:Nat):Int)) 1
  rw [e1,e2]
  exact Heap.get?_push_size _ rfl
 ·have e:b=(s.heap.push { cls:=.type "range",data:=.fields #[.int lo t,.int hi u,.int 1 v] }).objs.size:=by simpa using hb
  subst e
  exact I1.fpOk (Nat.le_refl _) (I1.hok.fresh (Nat.le_refl _))
noncomputable def JO (ta:TA):TI:=fun σ H R=>ta σ H fun vs H1=>∃ j:Int,vs=[.int j]/\-(2 ^ 62)<=j/\j<2 ^ 62/\R (Itr 0 j.toNat) H1
noncomputable def IB (ta:TA):TI:=fun σ H R=>ta σ H fun vs H1=>∃ i j:Int,vs=[.int i,.int j]/\(-(2 ^ 62)<=i/\i<2 ^ 62/\-(2 ^ 62)<=j/\j<2 ^ 62)/\R (Itr i (j - i).toNat) H1
theorem yS {a:Expr} {ta:TA} {p:Pos} (hg:Gl X "range") (hm:X.mg "range"=none) (ha:PA X [a] ta) (hs:starEach [a] X.env=[(false,eval a X.env)]:=by rfl):PI X tg (.Call (.Name "range" p) [a] [] pos) (JO ta):=by
 intro pins s σ H R I h
 refine Call_ (ka I hg hm boot_range (callWith_type1 (thn (ha pos pins s σ H _ I h) fun us s1 ⟨vs,H1,I1,r1,q1⟩=>?_) hs rfl))
 obtain ⟨j,e,q1,q2,q⟩:=q1
 subst e
 cases r1 with
 | cons r rr=>
  cases rr
  obtain ⟨t,rfl⟩:=r
  exact call_range_1 (uA I1 (by omega) (by omega) q1 q2 (by simpa using q))
theorem wN {a b:Expr} {ta:TA} {p:Pos} (hg:Gl X "range") (hm:X.mg "range"=none) (ha:PA X [a,b] ta) (hs:starEach [a,b] X.env=[(false,eval a X.env),(false,eval b X.env)]:=by rfl) (hs2:starEach [b] X.env=[(false,eval b X.env)]:=by rfl) :
  PI X tg (.Call (.Name "range" p) [a,b] [] pos) (IB ta):=by
 intro pins s σ H R I h
 refine Call_ (ka I hg hm boot_range (callWith_type1 (thn (ha pos pins s σ H _ I h) fun us s1 ⟨vs,H1,I1,r1,q1⟩=>?_) (by rw [hs,hs2]) (by rw [hs2];rfl)))
 obtain ⟨i,j,e,⟨q1,q2,q3,q4⟩,q⟩:=q1
 subst e
 cases r1 with
 | cons r rr=>
  cases rr with
  | cons r' rr=>
   cases rr
   obtain ⟨t,rfl⟩:=r
   obtain ⟨t',rfl⟩:=r'
   exact call_range_2 (uA I1 q1 q2 q3 q4 q)
noncomputable def Lk (wi:TI) (g:TG) (tb:TS):TS:=fun D σ H=>wi σ H fun J H1=>∃ W:Nat->Nat->St->Hp->Prop,(∃ m,W 0 m σ H1)/\∀ i m σ H,W i m σ H->
 (J.stop i H/\D.nx σ H)\/(J.go i H/\∃ N:St->Hp->Prop,(∀ σ' H',N σ' H'->∃ m',m'<m/\W (i+1) m' σ' H')/\∀ x H',J.yld i H x H'->g x σ H' fun σ2 H2=>tb { D with nx:=N,ct:=N,bk:=D.nx } σ2 H2)
noncomputable def qi (fp:List Addr) (h:Heap):List (Addr×Obj):=fp.filterMap fun b=>(h.get? b).map fun o=>(b,o)
theorem jn {o:Obj} (hb:b∈fp) (e:h.get? b=some o):(b,o)∈qi fp h:=List.mem_filterMap.mpr ⟨b,hb,by rw [e];rfl⟩
theorem wr {p:Addr×Obj} (hp:p∈qi fp h):p.1∈fp/\h.get? p.1=some p.2:=by
 obtain ⟨b,hb,e⟩:=List.mem_filterMap.mp hp
 cases q:h.get? b with
 | none=>rw [q] at e;cases e
 | some o=>
  rw [q] at e
  have e':(b,o)=p:=Option.some.inj e
  subst e'
  exact ⟨hb,q⟩
theorem Inv.pinned (I:Inv X pins σ H s) (hf:∀ b∈fp,mE X pins H b) (ho:∀ b∈fp,∃ o,s.heap.get? b=some o/\∀ v,o.data ≠ .cell v):Inv X (pins++qi fp s.heap) σ H s:=
 I.pins_of fun p hp=>(List.mem_append.mp hp).elim (fun z=>I.pin p (List.mem_append_right _ z)) fun z=>by
  obtain ⟨hb,e⟩:=wr z
  obtain ⟨f0,f1,f2,_⟩:=hf p.1 hb
  obtain ⟨o,e',d⟩:=ho p.1 hb
  rw [e] at e';cases e'
  exact ⟨e,f0,f1,f2,d⟩
theorem Inv.unpinned {pl:List (Addr×Obj)} (I:Inv X (pins++pl) σ H s):Inv X pins σ H s:=I.pins_of fun p hp=>I.pin p (List.mem_append_right _ (List.mem_append_left _ hp))
theorem BA {body:List Stmt} {wi:TI} {g:TG} {tb:TS} (hp:PassesOwn (model X.prog X.w) X.A X.env X.xe) (hc:X.calm=true) (hi:PI X tg iter wi) (hg:PG X tg g) (hb:PSs X body tb)
 (hs:∀ x,foldedSetIterable iter X.env x=pure x:=by intro _;rfl):PS X (.For tg iter body [] pos) (Lk wi g tb):=by
 intro pins s σ H D I h
 refine wpAny_For (thn (hi pins s σ H _ I h) fun v s1 h1=>thn h1 fun itv s2 h2=>?_) hs
 obtain ⟨it,fp,tn,J,H2,e,I2,T,st2,f2,W,⟨m0,w0⟩,turn⟩:=h2
 subst e
 have stat:∀ {H':Hp},(∀ b∈fp,H' b=none)->∀ b∈fp,mE X pins H' b:=fun hn b hb=>⟨hn b hb,(f2 b hb).2⟩
 refine codeAny_forLoop_any (fun n s'=>∃ i σ' H',Inv X pins σ' H' s'/\tn i s'.heap/\(∀ b∈fp,H' b=none)/\W i n σ' H') ?_ m0 ⟨0,σ,H2,I2,st2,fun b hb=>(f2 b hb).1,w0⟩
 rintro n s3 ⟨i,σ3,H3,I3,st3,fr3,w3⟩
 rcases turn i n σ3 H3 w3 with ⟨stop,qn⟩|⟨go,N,hN,step⟩
 ·refine wpAny_passesOwn hp (thn (T.done X rfl rfl rfl hc i pins s3 σ3 H3 X.xe I3 (stat fr3) st3 stop) fun r s4 ⟨hr,I4⟩=>?_)
  subst hr
  exact wpAny_execs_nil ⟨σ3,H3,I4,qn⟩
 ·refine wpAny_passesOwn hp (thn (T.item X rfl rfl rfl hc i pins s3 σ3 H3 X.xe I3 (stat fr3) st3 go) fun r s4 ⟨u,hr,h4⟩=>?_)
  subst hr
  refine wpAny_passesOwn hp (thn h4 fun _ s5 ⟨x,H5,I5,r5,y5,st5,fr5⟩=>?_)
  have I5':=I5.pinned (stat fr5) (T.obj _ _ st5)
  refine wpAny_passesOwn hp (thn (hg _ s5 σ3 H5 x u _ I5' r5 (step x H5 y5)) fun _ s6 ⟨σ6,H6,I6,q6⟩=>?_)
  refine wpAny_passesOwn hp (thn (hb _ s6 σ6 H6 _ I6 q6) fun f s7 q7=>?_)
  have again:∀ {σ7:St} {H7:Hp},Inv X (pins++qi fp s5.heap) σ7 H7 s7->N σ7 H7->∃ m,m<n/\∃ i σ' H',Inv X pins σ' H' s7/\tn i s7.heap/\(∀ b∈fp,H' b=none)/\W i m σ' H':=fun {σ7 H7} I7 n7=>by
   obtain ⟨m',hm,w7⟩:=hN σ7 H7 n7
   refine ⟨m',hm,i+1,σ7,H7,I7.unpinned,T.keep _ _ _ st5 fun b hb o e=>(I7.pin (b,o) (List.mem_append_right _ (List.mem_append_right _ (jn hb e)))).1,fun b hb=>?_,w7⟩
   obtain ⟨o,e,d⟩:=T.obj _ _ st5 b hb
   exact (I7.pin (b,o) (List.mem_append_right _ (List.mem_append_right _ (jn hb e)))).2.1
  cases f with
  | next=>obtain ⟨σ7,H7,I7,n7⟩:=q7;exact again I7 n7
  | cont=>obtain ⟨σ7,H7,I7,n7⟩:=q7;exact again I7 n7
  | brk=>obtain ⟨σ7,H7,I7,q7⟩:=q7;exact ⟨σ7,H7,I7.unpinned,q7⟩
  | ret v=>obtain ⟨x7,σ7,H7,I7,r7,q7⟩:=q7;exact ⟨x7,σ7,H7,I7.unpinned,r7,q7⟩
end
noncomputable abbrev R2:=V->V->Hp->VK->Prop
noncomputable def OpR (X:Cx) (f:Value->Value->Sem Value) (r:R2):Prop:=
 ∀ (pins:List (Addr×Obj)) (s:Shared) (σ:St) (H:Hp) (x y:V) (v u:Value) (Q:VK),Inv X pins σ H s->RelV x v->RelV y u->r x y H Q->
  wpAny (model X.prog X.w) X.A (f v u) (EP X pins σ Q) X.xe s
noncomputable def UnR (X:Cx) (f:Value->Sem Value) (r:V->Hp->VK->Prop):Prop:=
 ∀ (pins:List (Addr×Obj)) (s:Shared) (σ:St) (H:Hp) (x:V) (v:Value) (Q:VK),Inv X pins σ H s->RelV x v->r x H Q->
  wpAny (model X.prog X.w) X.A (f v) (EP X pins σ Q) X.xe s
noncomputable def jN (X:Cx) (f:Value) (r:List V->Hp->VK->Prop):Prop:=
 ∀ (pins:List (Addr×Obj)) (s:Shared) (σ:St) (H:Hp) (xs:List V) (us:List Value) (Q:VK),Inv X pins σ H s->Vals xs us->r xs H Q->
  wpAny (model X.prog X.w) X.A (call f us) (EP X pins σ Q) X.xe s
noncomputable def Lz (X:Cx) (r:V->Hp->(Bool->Hp->Prop)->Prop):Prop:=
 ∀ (pins:List (Addr×Obj)) (s:Shared) (σ:St) (H:Hp) (x:V) (v:Value) (Q:Bool->Hp->Prop),Inv X pins σ H s->RelV x v->r x H Q->
  wpAny (model X.prog X.w) X.A (truthy v) (TP X pins σ Q) X.xe s
noncomputable def tOp (r:R2) (ta tb:TE):TE:=fun σ H Q=>ta σ H fun x H1=>tb σ H1 fun y H2=>r x y H2 Q
noncomputable def tUn (r:V->Hp->VK->Prop) (ta:TE):TE:=fun σ H Q=>ta σ H fun x H1=>r x H1 Q
noncomputable def rI (C:Int->Int->Prop) (g:Int->Int->V):R2:=fun x y H Q=>∃ i j,x=.int i/\y=.int j/\C i j/\Q (g i j) H
noncomputable def rI0 (g:Int->Int->V):R2:=fun x y H Q=>∃ i j,x=.int i/\y=.int j/\Q (g i j) H
noncomputable def rU (g:Int->V):V->Hp->VK->Prop:=fun x H Q=>∃ i,x=.int i/\Q (g i) H
section
variable {a b c:Expr} {ta tb tc:TE}
theorem Jp (ha:PE X a ta) (hb:PE X b tb) {R:V->V->Hp->Prop} (I:Inv X pins σ H s)
 (h:ta σ H fun x H1=>tb σ H1 fun y H2=>R x y H2) {Q:Value->Shared->Prop} {f:Value->Value->Sem Value}
 (hf:∀ v u s2 x y H2,Inv X pins σ H2 s2->RelV x v->RelV y u->R x y H2->wpAny (model X.prog X.w) X.A (f v u) Q X.xe s2) :
  wpAny (model X.prog X.w) X.A (eval a X.env) (fun v s₁=>wpAny (model X.prog X.w) X.A (eval b X.env) (fun u s₂=>wpAny (model X.prog X.w) X.A (f v u) Q X.xe s₂) X.xe s₁) X.xe s:=by
 refine thn (ha pins s σ H _ I h) fun v s1 ⟨x,H1,I1,r1,q1⟩=>?_
 refine thn (hb pins s1 σ H1 _ I1 q1) fun u s2 ⟨y,H2,I2,r2,q2⟩=>?_
 exact hf v u s2 x y H2 I2 r1 r2 q2
theorem Jl {op:Operator} {r:R2} (ho:OpR X (binaryOp op) r) (ha:PE X a ta) (hb:PE X b tb):PE X (.BinOp a op b pos) (tOp r ta tb):=by
 intro pins s σ H Q I h
 exact wpAny_BinOp (Jp ha hb I h fun v u s2 x y H2 I2 rx ry q=>ho pins s2 σ H2 x y v u Q I2 rx ry q)
theorem Js {op:UnaryOp} {r:V->Hp->VK->Prop} (ho:UnR X (unaryOp op) r) (ha:PE X a ta):PE X (.UnaryOp op a pos) (tUn r ta):=by
 intro pins s σ H Q I h
 exact UnaryOp_ (thn (ha pins s σ H _ I h) fun v s1 ⟨x,H1,I1,r1,q1⟩=>ho pins s1 σ H1 x v Q I1 r1 q1)
theorem opI {f:Value->Value->Sem Value} {C:Int->Int->Prop} {g:Int->Int->Int}
 (rule:∀ (i j:Int) (t u:Tok) (s:Shared) (Q:Value->Shared->Prop) (E:Value->Shared->Prop),C i j->Q (.int (g i j) s.toks) { s with toks:=s.toks+1 }->wpAny (model X.prog X.w) X.A (f (.int i t) (.int j u)) Q E s) :
  OpR X f (rI C fun i j=>.int (g i j)):=by
 intro pins s σ H x y v u Q I rx ry h
 obtain ⟨i,j,rfl,rfl,hc,q⟩:=h
 obtain ⟨t,rfl⟩:=rx
 obtain ⟨t',rfl⟩:=ry
 exact rule i j t t' s _ _ hc ⟨.int (g i j),H,I.tok _,⟨_,rfl⟩,q⟩
theorem Kr {f:Value->Value->Sem Value} {g:Int->Int->Int}
 (rule:∀ (i j:Int) (t u:Tok) (s:Shared) (Q:Value->Shared->Prop) (E:Value->Shared->Prop),Q (.int (g i j) s.toks) { s with toks:=s.toks+1 }->wpAny (model X.prog X.w) X.A (f (.int i t) (.int j u)) Q E s) :
  OpR X f (rI0 fun i j=>.int (g i j)):=by
 intro pins s σ H x y v u Q I rx ry h
 obtain ⟨i,j,rfl,rfl,q⟩:=h
 obtain ⟨t,rfl⟩:=rx
 obtain ⟨t',rfl⟩:=ry
 exact rule i j t t' s _ _ ⟨.int (g i j),H,I.tok _,⟨_,rfl⟩,q⟩
theorem JG {f:Value->Value->Sem Value} {g:Int->Int->Bool}
 (rule:∀ (i j:Int) (t u:Tok) (s:Shared) (Q:Value->Shared->Prop) (E:Value->Shared->Prop),Q (.bool (g i j)) s->wpAny (model X.prog X.w) X.A (f (.int i t) (.int j u)) Q E s) :
  OpR X f (rI0 fun i j=>.bl (g i j)):=by
 intro pins s σ H x y v u Q I rx ry h
 obtain ⟨i,j,rfl,rfl,q⟩:=h
 obtain ⟨t,rfl⟩:=rx
 obtain ⟨t',rfl⟩:=ry
 exact rule i j t t' s _ _ ⟨.bl (g i j),H,I,rfl,q⟩
noncomputable def KL (i j:Int):Prop:=0<j/\j<1073741824
noncomputable def CMul (i j:Int):Prop:=(-(2 ^ 64)<i/\i<2 ^ 64)\/(-(2 ^ 64)<j/\j<2 ^ 64)
theorem CMul.ok {i j:Int} (h:CMul i j):IntMulOk i j:=by
 rcases h with ⟨h1,h2⟩|⟨h1,h2⟩
 ·exact .of_left (intBits_le_64 h1 h2)
 ·exact .of_right (intBits_le_64 h1 h2)
theorem op_add:OpR X (binaryOp .Add) (rI0 fun i j=>.int (i+j)):=Kr fun _ _ _ _ _ _ _ q=>add_int q
theorem EI:OpR X (binaryOp .Sub) (rI0 fun i j=>.int (i - j)):=Kr fun _ _ _ _ _ _ _ q=>sub_int q
theorem op_mul:OpR X (binaryOp .Mult) (rI CMul fun i j=>.int (i * j)):=opI fun _ _ _ _ _ _ _ hc q=>mul_int q hc.ok
theorem DQ:OpR X (binaryOp .FloorDiv) (rI KL fun i j=>.int (i / j)):=opI fun i j _ _ _ _ _ hc q=>by
 have h1:(0:Int)<j:=hc.1
 have h2:j<1073741824:=hc.2
 exact floordiv_int (by omega) (by rw [Int.fdiv_eq_ediv_of_nonneg i (by omega)];exact q) (.inl (PyProof.noPylong_small (by omega)))
theorem Fu:OpR X (binaryOp .Mod) (rI (fun _ j=>0<j) fun i j=>.int (i % j)):=opI fun i j _ _ _ _ _ hc q=>by
 have h1:(0:Int)<j:=hc
 exact mod_int' (by omega) (by rw [Int.fmod_eq_emod_of_nonneg i (by omega)];exact q)
theorem unI {f:Value->Sem Value} {g:Int->Int}
 (rule:∀ (i:Int) (t:Tok) (s:Shared) (Q:Value->Shared->Prop) (E:Value->Shared->Prop),Q (.int (g i) s.toks) { s with toks:=s.toks+1 }->wpAny (model X.prog X.w) X.A (f (.int i t)) Q E s) :
  UnR X f (rU fun i=>.int (g i)):=by
 intro pins s σ H x v Q I rx h
 obtain ⟨i,rfl,q⟩:=h
 obtain ⟨t,rfl⟩:=rx
 exact rule i t s _ _ ⟨.int (g i),H,I.tok _,⟨_,rfl⟩,q⟩
theorem Fr:UnR X (unaryOp .USub) (rU fun i=>.int (-i)):=unI fun _ _ _ _ _ q=>neg_int q
end
section
variable {a b c:Expr} {ta tb tc:TE}
theorem xB {Q:VK} {k k':Bool} (I:Inv X pins σ H s) (q:Q (.bl k) H) (e:k=k'):EP X pins σ Q (.bool k') s:=by
 subst e
 exact ⟨.bl k,H,I,rfl,q⟩
theorem op_lt:OpR X (compareOp .Lt) (rI0 fun i j=>.bl (decide (i<j))):=JG fun _ _ _ _ _ _ _ q=>lt_int q
theorem op_le:OpR X (compareOp .LtE) (rI0 fun i j=>.bl (decide (i<=j))):=JG fun _ _ _ _ _ _ _ q=>le_int q
theorem I8:OpR X (compareOp .Gt) (rI0 fun i j=>.bl (decide (j<i))):=JG fun _ _ _ _ _ _ _ q=>gt_int q
theorem yD:OpR X (compareOp .Lt) (fun x y H Q=>∃ i j,x=.str i/\y=.str j/\Q (.bl (decide (i.cps.toList<j.cps.toList))) H):=by
 intro pins s σ H x y v u Q I rx ry h
 obtain ⟨i,j,rfl,rfl,q⟩:=h
 obtain ⟨t,rfl⟩:=rx
 obtain ⟨t',rfl⟩:=ry
 exact lt_str (xB I q rfl)
theorem op_isN:OpR X (compareOp .Is) (fun x y H Q=>y=.non/\Q (.bl (decide (x=.non))) H):=by
 intro pins s σ H x y v u Q I rx ry h
 obtain ⟨rfl,q⟩:=h
 cases ry
 refine is_none_gen (xB I q ?_)
 cases x <;> first
  | (cases rx;rfl)
  | (obtain ⟨t,rfl⟩:=rx;rfl)
theorem OpR.or {f:Value->Value->Sem Value} {r r':R2} (h:OpR X f r) (h':OpR X f r'):OpR X f (fun x y H Q=>r x y H Q\/r' x y H Q):=by
 intro pins s σ H x y v u Q I rx ry q
 rcases q with q|q
 ·exact h pins s σ H x y v u Q I rx ry q
 ·exact h' pins s σ H x y v u Q I rx ry q
theorem jA (b:Expr) {op:CmpOp} (h:op ≠ .In:=by decide) (h2:op ≠ .NotIn:=by decide):behindInMarks op b=false:=by
 have e1:(op==CmpOp.In)=false:=by cases op <;> first|rfl|exact absurd rfl h
 have e2:(op==CmpOp.NotIn)=false:=by cases op <;> first|rfl|exact absurd rfl h2
 cases b <;> simp [behindInMarks,e1,e2]
theorem C2 {op:CmpOp} {r:R2} (ho:OpR X (compareOp op) r) (ha:PE X a ta) (hb:PE X b tb) (hm:behindInMarks op b=false):PE X (.Compare a [op] [b] pos) (tOp r ta tb):=by
 intro pins s σ H Q I h
 exact wpAny_Compare1 (Jp ha hb I h fun v u s2 x y H2 I2 rx ry q=>ho pins s2 σ H2 x y v u Q I2 rx ry q) hm
noncomputable def C4 (t:TE):TT:=fun σ H Q=>t σ H fun x H'=>∃ k,x=.bl k/\Q k H'
theorem sx {op:CmpOp} {r:R2} (ho:OpR X (compareOp op) r) (ha:PE X a ta) (hb:PE X b tb) (hm:behindInMarks op b=false):PT X (.Compare a [op] [b] pos) (C4 (tOp r ta tb)):=by
 intro pins s σ H Q I h
 refine wpAny_isTrue_Compare1 (thn (ha pins s σ H _ I h) fun v s1 ⟨x,H1,I1,r1,q1⟩=>thn (hb pins s1 σ H1 _ I1 q1) fun u s2 ⟨y,H2,I2,r2,q2⟩=>
  thn (ho pins s2 σ H2 x y v u _ I2 r1 r2 q2) fun c s3 ⟨z,H3,I3,r3,k,e,q3⟩=>?_) hm
 subst e
 cases r3
 exact wpAny_truthy_bool ⟨H3,I3,q3⟩
noncomputable def B4 (r r':R2) (ta tb tc:TE):TE:=fun σ H Q=>ta σ H fun x H1=>tb σ H1 fun y H2=>r x y H2 fun z H3=>∃ k,z=.bl k/\
 (if k=true then tc σ H3 fun w' H4=>r' y w' H4 Q else Q (.bl false) H3)
theorem Ak {op op':CmpOp} {r r':R2} (ho:OpR X (compareOp op) r) (ho':OpR X (compareOp op') r') (ha:PE X a ta) (hb:PE X b tb) (hc:PE X c tc)
 (hm:lastMarks [op,op'] [b,c]=false:=by with_unfolding_all rfl):PE X (.Compare a [op,op'] [b,c] pos) (B4 r r' ta tb tc):=by
 intro pins s σ H Q I h
 refine Compare_chain (thn (ha pins s σ H _ I h) fun v s1 ⟨x,H1,I1,r1,q1⟩=>chain_link (thn (hb pins s1 σ H1 _ I1 q1) fun u s2 ⟨y,H2,I2,r2,q2⟩=>
  thn (ho pins s2 σ H2 x y v u _ I2 r1 r2 q2) fun d s3 ⟨z,H3,I3,r3,k,e,q3⟩=>?_)) hm
 subst e
 cases r3
 refine wpAny_truthy_bool ?_
 cases k with
 | false=>exact ite_ff ⟨.bl false,H3,I3,rfl,q3⟩
 | true=>exact ite_tt (chain_last (thn (hc pins s3 σ H3 _ I3 q3) fun w' s4 ⟨z',H4,I4,r4,q4⟩=>ho' pins s4 σ H4 y z' u w' Q I4 r2 r4 q4))
theorem zU {op op':CmpOp} {r r':R2} (ho:OpR X (compareOp op) r) (ho':OpR X (compareOp op') r') (ha:PE X a ta) (hb:PE X b tb) (hc:PE X c tc)
 (hm:lastMarks [op,op'] [b,c]=false:=by with_unfolding_all rfl):PT X (.Compare a [op,op'] [b,c] pos) (C4 (B4 r r' ta tb tc)):=by
 intro pins s σ H Q I h
 refine isTrue_chain (thn (ha pins s σ H _ I h) fun v s1 ⟨x,H1,I1,r1,q1⟩=>test_link (thn (hb pins s1 σ H1 _ I1 q1) fun u s2 ⟨y,H2,I2,r2,q2⟩=>
  thn (ho pins s2 σ H2 x y v u _ I2 r1 r2 q2) fun d s3 ⟨z,H3,I3,r3,k,e,q3⟩=>?_)) hm
 subst e
 cases r3
 refine wpAny_truthy_bool ?_
 cases k with
 | false=>
  obtain ⟨k',e',q'⟩:=q3
  cases e'
  exact ite_ff ⟨H3,I3,q'⟩
 | true=>
  refine ite_tt (test_last (thn (hc pins s3 σ H3 _ I3 q3) fun w' s4 ⟨z',H4,I4,r4,q4⟩=>thn (ho' pins s4 σ H4 y z' u w' _ I4 r2 r4 q4) fun d' s5 ⟨z2,H5,I5,r5,k2,e2,q5⟩=>?_))
  subst e2
  cases r5
  exact wpAny_truthy_bool ⟨H5,I5,q5⟩
noncomputable def Kj (K:W.Frag) (x:V) (H:Hp) (k:Bool):Prop:=
 match x with
 | .non=>k=false
 | .bl b=>k=b
 | .int i=>k=(i != 0)
 | .str y=>y.length<=sizeLine/\k=((y.length:Int) != 0)
 | .byt y=>y.size<=sizeLine/\k=((y.size:Int) != 0)
 | .ref p=>(∃ xs,SqL K H p xs/\k = !xs.isEmpty)\/(∃ xs,SqT K H p xs/\k = !xs.isEmpty)\/∃ kvs,H p=some (.dK kvs)/\k = !kvs.isEmpty
 | _=>False
theorem vY {κ:Type} {kvs:List (κ×V)} {vs:List (κ×Value)} (r:KV kvs vs):(!vs.isEmpty) = !kvs.isEmpty:=by
 cases r <;> rfl
theorem zQz9 (r:Vals xs its):(!its.toArray.isEmpty) = !xs.isEmpty:=by
 cases r <;> simp
theorem lA:(sizeLine:Nat)<2 ^ 63:=by rw [sizeLine_eq];decide
theorem Gc:Lz X (fun x H Q=>∃ k,Kj X.K x H k/\Q k H):=by
 intro pins s σ H x v Q I rx h
 obtain ⟨k,e,q⟩:=h
 have hl:=lA
 have hs:sizeLine=16777216:=sizeLine_eq
 cases x with
 | non=>
  cases rx
  have e':k=false:=e
  subst e'
  exact truthy_none ⟨H,I,q⟩
 | bl b=>
  cases rx
  have e':k=b:=e
  subst e'
  exact wpAny_truthy_bool ⟨H,I,q⟩
 | int i=>
  obtain ⟨t,rfl⟩:=rx
  have e':k=(i != 0):=e
  subst e'
  exact PySem.P.truthy_int ⟨H,I,q⟩
 | str y=>
  obtain ⟨t,rfl⟩:=rx
  obtain ⟨hy,e'⟩:y.length<=sizeLine/\k=((y.length:Int) != 0):=e
  subst e'
  exact PySem.P.truthy_str (by omega) ⟨H,I.tok _,q⟩
 | byt y=>
  obtain ⟨t,rfl⟩:=rx
  obtain ⟨hy,e'⟩:y.size<=sizeLine/\k=((y.size:Int) != 0):=e
  subst e'
  exact W.truthy_bytes (by omega) ⟨H,I.tok _,q⟩
 | ref p=>
  cases rx
  have e':(∃ xs,SqL X.K H p xs/\k = !xs.isEmpty)\/(∃ xs,SqT X.K H p xs/\k = !xs.isEmpty)\/∃ kvs,H p=some (.dK kvs)/\k = !kvs.isEmpty:=e
  rcases e' with ⟨xs,hx,e'⟩|⟨xs,hx,e'⟩|⟨kvs,hx,e'⟩
  ·subst e'
   obtain ⟨its,r,pl,hz⟩:=I.list hx
   have hlen:=r.length
   exact wpAny_truthy_list pl.isList (by simp only [List.size_toArray];omega) ⟨H,I.tok _,by rw [zQz9 r];exact q⟩
  ·subst e'
   obtain ⟨its,r,pl,hz⟩:=I.tuple hx
   have hlen:=r.length
   exact truthy_tuple pl (by simp only [List.size_toArray];omega) ⟨H,I.tok _,by rw [zQz9 r];exact q⟩
  ·subst e'
   obtain ⟨hz,hS,vs,r,m⟩:kvs.length<=sizeLine/\(p==sysModules)=false/\∃ vs,KV kvs vs/\s.heap.DictOf (rD X.prog X.w) p vs:=I.hok p _ hx
   have hlen:kvs.length=vs.length:=Paired.length r
   exact wpAny_truthy_dict hS m (by omega) ⟨H,I.tok _,by rw [vY r];exact q⟩
 | _=>exact (show False from e).elim
theorem zv (ha:PE X a ta) (he:∀ whole,isTrue a X.env whole=(do let v <- whole;standAt a.pos;holding [v] (truthy v))) :
  PT X a (fun σ H Q=>ta σ H fun x H'=>∃ k,Kj X.K x H' k/\Q k H'):=by
 intro pins s σ H Q I h
 exact isTrue_plain (thn (ha pins s σ H _ I h) fun v s1 ⟨x,H1,I1,r1,q1⟩=>Gc pins s1 σ H1 x v Q I1 r1 q1) (he _)
theorem op_add_str:OpR X (binaryOp .Add) (fun x y H Q=>∃ i j,x=.str i/\y=.str j/\i.length+j.length<=sizeLine/\Q (.str (i++j)) H):=by
 intro pins s σ H x y v u Q I rx ry h
 obtain ⟨i,j,rfl,rfl,hz,q⟩:=h
 obtain ⟨t,rfl⟩:=rx
 obtain ⟨t',rfl⟩:=ry
 exact add_str (fun t' tk=>⟨.str (i++j),H,I.tok _,⟨_,rfl⟩,q⟩) hz
theorem wn {x:V} (r:Vals [x] us):∃ u,us=[u]/\RelV x u:=by
 cases r with
 | cons r1 r2=>cases r2;exact ⟨_,rfl,r1⟩
noncomputable def LI (K:W.Frag) (x:V) (H:Hp) (n:Nat):Prop:=
 match x with
 | .str y=>y.length<=sizeLine/\n=y.length
 | .byt y=>y.size<=sizeLine/\n=y.size
 | .ref p=>(∃ xs,SqL K H p xs/\n=xs.length)\/∃ xs,SqT K H p xs/\n=xs.length
 | _=>False
theorem zN:jN X (.builtin "len") (fun xs H Q=>∃ x n,xs=[x]/\LI X.K x H n/\Q (.int n) H):=by
 intro pins s σ H xs us Q I r h
 obtain ⟨x,n,rfl,e,q⟩:=h
 obtain ⟨u,rfl,rx⟩:=wn r
 have hl:=lA
 have hs:sizeLine=16777216:=sizeLine_eq
 cases x with
 | str y=>
  obtain ⟨t,rfl⟩:=rx
  obtain ⟨hy,e'⟩:y.length<=sizeLine/\n=y.length:=e
  subst e'
  exact len_str (by omega) ⟨.int _,H,I.tok _,⟨_,rfl⟩,q⟩
 | byt y=>
  obtain ⟨t,rfl⟩:=rx
  obtain ⟨hy,e'⟩:y.size<=sizeLine/\n=y.size:=e
  subst e'
  exact W.len_bytes (by omega) ⟨.int _,H,I.tok _,⟨_,rfl⟩,q⟩
 | ref p=>
  cases rx
  have e':(∃ xs,SqL X.K H p xs/\n=xs.length)\/∃ xs,SqT X.K H p xs/\n=xs.length:=e
  rcases e' with ⟨xs,hx,e'⟩|⟨xs,hx,e'⟩
  ·subst e'
   obtain ⟨its,r',pl,hz⟩:=I.list hx
   have hlen:=r'.length
   exact Calls.call_len_list pl.isList (by simp only [List.size_toArray];omega) ⟨.int xs.length,H,I.tok _,⟨_,by simp only [List.size_toArray];rw [hlen]⟩,q⟩
  ·subst e'
   obtain ⟨its,r',pl,hz⟩:=I.tuple hx
   have hlen:=r'.length
   exact len_tuple pl (by simp only [List.size_toArray];omega) ⟨.int xs.length,H,I.tok _,⟨_,by simp only [List.size_toArray];rw [hlen]⟩,q⟩
 | _=>exact (show False from e).elim
end
structure ObjM (h:Heap) (x dx C:Addr) (mA:Str->Option Value):Prop where
 obj:h.get? x=some (W.instObj C dx)
 ns:h.Ns1 dx mA
 ne:dx≠x
theorem xK {dx:Addr} (n:h.Ns1 dx mA):∃ od,h.get? dx=some od/\∀ name,W.lookIn name od=some (mA name):=by
 obtain ⟨o,es,ep,ho,hd,hk,_,hm⟩:=n
 refine ⟨o,ho,fun name=>?_⟩
 have e:=hm name
 unfold nsFind findBy at e
 rw [<- Array.find?_toList] at e
 unfold W.lookIn
 rw [hd]
 dsimp only
 split
 ·rename_i y q
  rw [q] at e
  exact congrArg some e
 ·rename_i q
  rw [q] at e
  have a:es.toList.any (·.refKey)=false:=by
   rw [List.any_eq_false]
   intro y hy
   obtain ⟨z,t,hkey⟩:=hk y (Array.mem_toList_iff.mp hy)
   simp [DictEntry.refKey,hkey]
  have a' : ¬ es.toList.any (·.refKey)=true:=by rw [a];exact Bool.false_ne_true
  rw [if_neg a']
  exact congrArg some e
theorem ObjM.look {x dx:Addr} (I:ObjM h x dx C mA):∃ od,W.InstAt h x (W.instObj C dx) C (some od)/\∀ name,W.lookIn name od=some (mA name):=
 let ⟨od,ho,hl⟩:=xK I.ns
 ⟨od,⟨I.obj,rfl,rfl,ho⟩,hl⟩
section
variable {prog:Program} {w:World} {A:Around} {K:W.Frag} {x dx:Addr} {name:Str} {v:Value}
theorem D3 {expr:Bool} {Q:Value->Shared->Prop} (X:K.In s.heap) (I:ObjM s.heap x dx C mA) (hg:W.plainGet K C name=true) (hh:W.hasDictIn K C=true)
 (ha:W.findIn K (.ref C) name=some none) (hv:mA name=some v) (hv':W.handedIn v=true) (h:Q v { s with toks:=s.toks+1 }) :
  wpAny (model prog w) A (getAttr (.ref x) name expr) Q E s:=by
 obtain ⟨od,J,hl⟩:=I.look
 exact W.get_value X J (W.plainGet_of hg).1 (W.findObj_own hh ha rfl (by rw [hl,hv])) hv' h
theorem Ap {pl:Sem Bool} {Q:Value×List Value->Shared->Prop} (X:K.In s.heap) (I:ObjM s.heap x dx C mA) (hg:W.plainGet K C name=true)
 (hf:W.findIn K (.ref C) name=some (some (.ref f))) (ht:W.isFn K (.ref f)=true) (hv:mA name=none) (h:Q (.ref f,[.ref x]) s) :
  wpAny (model prog w) A (getMethod (.ref x) name pl) Q E s:=by
 obtain ⟨od,J,hl⟩:=I.look
 exact W.method_fn X J (W.plainGet_of hg).1 (W.plainGet_of hg).2 hf (beq_iff_eq.mp ht) (by show (W.lookIn name od).map (·.isSome)=some false;rw [hl,hv];rfl) h
theorem Ec {ns:List Str} {Q:Unit->Shared->Prop} (X:K.In s.heap) (I:ObjM s.heap x dx C mA)
 (hs:W.findIn K (.ref C) "__setattr__"=some (some (.builtin "object.__setattr__"))) (hp:W.plainOver K C=true) (ht:W.takerIn K C name=some none) (hh:W.hasDictIn K C=true)
 (hw:PySem.Within mA ns) (hsz:ns.length<=sizeLine)
 (h:∀ h',ObjM h' x dx C (fun y=>if y=name then some v else mA y)->Heap.SameBut dx s.heap h'->Q () { s with heap:=h',toks:=s.toks+2 }) :
  wpAny (model prog w) A (setAttr (.ref x) name v) Q E s:=by
 obtain ⟨od,J,hl⟩:=I.look
 refine W.set_plain X J hs (W.osa_open (s:={ s with toks:=s.toks+1 }) (r:=none) X J hp ht fun b=>?_)
 obtain ⟨cd,hc,hd'⟩:=W.any_some hh
 have hx:s.heap.get? x=some ⟨.ref C,some dx,.plain,#[]⟩:=I.obj
 refine wpAny_bind (wpAny_pure (wpAny_bind (wpAny_bind (wpAny_loadPart hx (wpAny_bind (W.Looks.here (s:={ s with toks:=s.toks+1 }) (W.looks_clsIn X hc) ?_))))))
 rw [hd']
 refine wpAny_pure (a:=some dx) (wpAny_bind (wpAny_pure (wpAny_bind ?_)))
 refine wpAny_nsSet1 (s:={ s with toks:=s.toks+1 }) I.ns fun h' hn2 hs2=>?_
 obtain ⟨oD,esD,epD,hoD,hdD,hcD⟩:=hn2.count (PySem.Within.cons name v hw)
 refine wpAny_bind (wpAny_lookBehind hoD (by rw [hdD];exact pastItsLine_dict (Nat.le_trans hcD (by rw [List.length_cons];omega))) ?_)
 exact wpAny_pure (h _ ⟨(hs2.2 _ (Ne.symm I.ne)).trans I.obj,hn2,I.ne⟩ hs2)
theorem Ai {R:Result->Shared->Prop} {vs:List Value} {kw:List (Str×Value)} (X:K.In s.heap) (hm:W.makesIn K C=true)
 (hi:W.findIn K (.ref C) "__init__"=some (some (.ref f))) (hf:W.typeIn K (.ref f)=some (.type "function"))
 (h:codeAny (model prog w) (A.under (.builtin "type.__call__" ⟨.ref C::vs,kw⟩)) (.call (.ref f) ⟨.ref (s.heap.objs.size+1)::vs,kw⟩) (W.InitBack (s.heap.objs.size+1) R)
 { s with heap:=(s.heap.push W.emptyDict).push (W.instObj C s.heap.objs.size) }) :
  codeAny (model prog w) A (.call (.ref C) ⟨vs,kw⟩) R s:=by
 obtain ⟨hh,g,d,t,os⟩:=s
 exact W.make_core (W.makes_of X hm) (W.looks_findIn X hi) (fun self=>W.bind_fn X self hf) (.inl rfl) h
end
noncomputable def mC (f:Str) (v:V):List (Str×V)->List (Str×V)
 | []=>[(f,v)]
 | (g,x)::r=>if g=f then (g,v)::r else (g,x)::mC f v r
theorem kg (f g:Str) (v:V):∀ fs:List (Str×V),(mC f v fs).lookup g=if g=f then some v else fs.lookup g
 | []=>by
  show List.lookup g [(f,v)]=_
  by_cases h:g=f
  ·have hb:(g==f)=true:=beq_iff_eq.mpr h
   simp only [List.lookup,hb,if_pos h]
  ·have hb:(g==f)=false:=beq_eq_false_iff_ne.mpr h
   simp only [List.lookup,hb,if_neg h]
 | (k,x)::r=>by
  have ih:=kg f g v r
  rw [show mC f v ((k,x)::r)=(if k=f then (k,v)::r else (k,x)::mC f v r) from rfl]
  by_cases hk:k=f
  ·rw [if_pos hk]
   by_cases h:g=k
   ·have hb:(g==k)=true:=beq_iff_eq.mpr h
    simp only [List.lookup,hb,if_pos (h.trans hk)]
   ·have hb:(g==k)=false:=beq_eq_false_iff_ne.mpr h
    simp only [List.lookup,hb,if_neg (fun e:g=f=>h (e.trans hk.symm))]
  ·rw [if_neg hk]
   by_cases h:g=k
   ·have hb:(g==k)=true:=beq_iff_eq.mpr h
    simp only [List.lookup,hb,if_neg (fun e:g=f=>hk (h.symm.trans e))]
   ·have hb:(g==k)=false:=beq_eq_false_iff_ne.mpr h
    simp only [List.lookup,hb]
    exact ih
theorem kh (f:Str) (v:V):∀ fs:List (Str×V),f∈(mC f v fs).map (·.1)/\∀ g,g∈fs.map (·.1)->g∈(mC f v fs).map (·.1)
 | []=>⟨by simp [mC],fun g h=>by simp at h⟩
 | (k,x)::r=>by
  obtain ⟨i1,i2⟩:=kh f v r
  rw [show mC f v ((k,x)::r)=(if k=f then (k,v)::r else (k,x)::mC f v r) from rfl]
  by_cases hk:k=f
  ·rw [if_pos hk]
   subst hk
   exact ⟨by simp,fun g h=>by simpa using h⟩
  ·rw [if_neg hk]
   refine ⟨?_,fun g h=>?_⟩
   ·rw [List.map_cons]
    exact List.mem_cons_of_mem _ i1
   ·rw [List.map_cons] at h ⊢
    rcases List.mem_cons.mp h with e|e
    ·exact List.mem_cons.mpr (.inl e)
    ·exact List.mem_cons_of_mem _ (i2 g e)
theorem lG (f:Str) (v:V):∀ fs:List (Str×V),(mC f v fs).length<=fs.length+1
 | []=>by simp [mC]
 | (k,x)::r=>by
  have ih:=lG f v r
  rw [show mC f v ((k,x)::r)=(if k=f then (k,v)::r else (k,x)::mC f v r) from rfl]
  by_cases hk:k=f
  ·rw [if_pos hk,List.length_cons,List.length_cons];omega
  ·rw [if_neg hk,List.length_cons,List.length_cons];omega
theorem RelO.some_of {o:Option Value} (r:RelO (some v) o):∃ u,o=some u/\RelV v u:=by
 cases o with
 | none=>exact (show False from r).elim
 | some u=>exact ⟨u,rfl,r⟩
theorem RelO.none_of {o:Option Value} (r:RelO none o):o=none:=by
 cases o with
 | none=>rfl
 | some u=>exact (show False from r).elim
theorem xn (r:RelV v u):W.handedIn u=true:=by
 cases v with
 | non=>cases (show u=Value.none from r);rfl
 | bl b=>cases (show u=Value.bool b from r);rfl
 | int i=>obtain ⟨t,e⟩:=(show ∃ t,u=Value.int i t from r);cases e;rfl
 | str x=>obtain ⟨t,e⟩:=(show ∃ t,u=Value.str x t from r);cases e;rfl
 | byt b=>obtain ⟨t,e⟩:=(show ∃ t,u=Value.bytes b t from r);cases e;rfl
 | flt b=>obtain ⟨t,e⟩:=(show ∃ t,u=Value.float b t from r);cases e;rfl
 | ref a=>cases (show u=Value.ref a from r);rfl
 | ty n=>cases (show u=Value.type n from r);rfl
section
variable {w:World} {dx:Addr} {fs fs':List (Str×V)}
theorem sE (hok:HOk P w H h) (e:H a=some (.ins C dx fs)):∃ mA,ObjM h a dx C mA/\(∀ f,RelO (fs.lookup f) (mA f))/\PySem.Within mA (fs.map (·.1))/\fs.length<=1000/\H dx=some (.own a):=by
 obtain ⟨d,z,ne,ob,mA,n,r,q⟩:=(show ObjOk P w H h a (.ins C dx fs) from hok a _ e)
 exact ⟨mA,⟨ob,n,ne⟩,r,q,z,d⟩
end
structure Cls (K:W.Frag) (C:Addr):Prop where
 pg:W.plainGet K C Str.empty=true
 hd:W.hasDictIn K C=true
 po:W.plainOver K C=true
 sa:W.findIn K (.ref C) "__setattr__"=some (some (.builtin "object.__setattr__"))
theorem Cls.get {K:W.Frag} (c:Cls K C) (f:Str):W.plainGet K C f=true:=c.pg
noncomputable def NoAttr (K:W.Frag) (C:Addr) (f:Str):Prop:=W.findIn K (.ref C) f=some none
theorem NoAttr.taker {K:W.Frag} {f:Str} (n:NoAttr K C f):W.takerIn K C f=some none:=by
 unfold W.takerIn
 rw [show W.findIn K (.ref C) f=some none from n]
 rfl
structure Con (K:W.Frag) (C:Addr) (f:Str) (v:V) (u:Value):Prop where
 at_:W.findIn K (.ref C) f=some (some u)
 rel:RelV v u
 get:W.specialIn K u "__get__"=some none
 cp:W.copiedNames.contains f=false
structure Meth (K:W.Frag) (C:Addr) (m:Str) (f:Addr):Prop where
 at_:W.findIn K (.ref C) m=some (some (.ref f))
 fn:W.isFn K (.ref f)=true
 kp:W.keepIn K (.ref f)=true
section
variable {dx:Addr} {fs:List (Str×V)} {f:Str} {A:Around}
theorem uT {b:Bool} {Q:Value->Shared->Prop} (I:Inv X pins σ H s) (e:H a=some (.ins C dx fs)) (c:Cls X.K C) (n:NoAttr X.K C f) (l:fs.lookup f=some v)
 (h:∀ u s',Inv X pins σ H s'->RelV v u->Q u s'):wpAny (model X.prog X.w) A (getAttr (.ref a) f b) Q E s:=by
 obtain ⟨mA,O,r,_,_,_⟩:=sE I.hok e
 obtain ⟨u,hu,ru⟩:=RelO.some_of (v:=v) (o:=mA f) (by rw [<- l];exact r f)
 exact D3 I.kIn O (c.get f) c.hd n hu (xn ru) (h u _ (I.tok _) ru)
theorem jl {m:Str} {g:Addr} {pl:Sem Bool} {Q:Value×List Value->Shared->Prop} (I:Inv X pins σ H s) (e:H a=some (.ins C dx fs)) (c:Cls X.K C) (k:Meth X.K C m g) (l:fs.lookup m=none)
 (h:Q (.ref g,[.ref a]) s):wpAny (model X.prog X.w) A (getMethod (.ref a) m pl) Q E s:=by
 obtain ⟨mA,O,r,_,_,_⟩:=sE I.hok e
 have hn:mA m=none:=RelO.none_of (by rw [<- l];exact r m)
 exact Ap I.kIn O (c.get m) k.at_ k.fn hn h
theorem vX {y:V} {Q:Unit->Shared->Prop} (I:Inv X pins σ H s) (e:H a=some (.ins C dx fs)) (c:Cls X.K C) (n:NoAttr X.K C f) (hl:fs.length<1000) (ry:RelV y u)
 (h:∀ s',Inv X pins σ (upd H a (.ins C dx (mC f y fs))) s'->Q () s'):wpAny (model X.prog X.w) A (setAttr (.ref a) f u) Q E s:=by
 obtain ⟨mA,O,r,wi,_,ho⟩:=sE I.hok e
 have hz:(fs.map (·.1)).length<=sizeLine:=by rw [List.length_map,sizeLine_eq];omega
 refine Ec I.kIn O c.sa c.po n.taker c.hd wi hz fun h' O' sb=>h _ ?_
 have hd:∃ o,h'.get? dx=some o:=let ⟨o,_,_,e',_⟩:=O'.ns;⟨o,e'⟩
 refine I.write (x:=a) (e:=dx) (by rw [e];exact True.intro) (.inr ho) (fun b q hb z=>(sb.2 b hb).trans z) hd ?_
 refine ⟨by rw [aC O.ne];exact ho,?_,O.ne,O'.obj,_,O'.ns,fun g=>?_,fun g hg=>?_⟩
 ·have:=lG f y fs;omega
 ·show RelO ((mC f y fs).lookup g) (if g=f then some u else mA g)
  rw [kg]
  by_cases q:g=f
  ·rw [if_pos q,if_pos q];exact ry
  ·rw [if_neg q,if_neg q];exact r g
 ·by_cases q:g=f
  ·rw [q];exact (kh f y fs).1
  ·refine (kh f y fs).2 g (wi g fun z=>hg ?_)
   show (if g=f then some u else mA g)=none
   rw [if_neg q];exact z
theorem Inv.made (I:Inv X pins σ H s):Inv X pins σ (upd (upd H s.heap.objs.size (.own (s.heap.objs.size+1))) (s.heap.objs.size+1) (.ins C s.heap.objs.size []))
  { s with heap:=(s.heap.push W.emptyDict).push (W.instObj C s.heap.objs.size) }:=by
 have e1:(s.heap.push W.emptyDict).get? s.heap.objs.size=some W.emptyDict:=Heap.get?_push_size s.heap rfl
 have e2:((s.heap.push W.emptyDict).push (W.instObj C s.heap.objs.size)).get? (s.heap.objs.size+1)=some (W.instObj C s.heap.objs.size):=by
  have:=Heap.get?_push_size (s.heap.push W.emptyDict) (o:=W.instObj C s.heap.objs.size) rfl
  rwa [Heap.size_push] at this
 have e3:(s.heap.push W.emptyDict).Ns s.heap.objs.size (fun _=>none):=⟨W.emptyDict,#[],_,e1,rfl,(fun e he=>absurd he (by simp)),fun _=>rfl⟩
 have I1:=I.laid (a:=s.heap.objs.size) (o:=.own (s.heap.objs.size+1)) (h':=s.heap.push W.emptyDict) (t':=s.toks) (fun b u q=>Heap.get?_push_of_some _ q) (Nat.le_refl _) ⟨_,e1⟩
 refine I1.laid (a:=s.heap.objs.size+1) (o:=.ins C s.heap.objs.size []) (t':=s.toks) (fun b u q=>Heap.get?_push_of_some _ q) (Nat.le_of_eq (Heap.size_push _ _)) ?_
 have ne:s.heap.objs.size≠s.heap.objs.size+1:=Nat.ne_of_lt (Nat.lt_succ_self _)
 refine ⟨by rw [aC ne,aM],Nat.zero_le _,ne,e2,fun _=>none,(Heap.Ns1.of_empty e3).at fun o q=>Heap.get?_push_of_some _ q,fun _=>True.intro,fun y hy=>absurd rfl hy⟩
theorem EA {prog:Program} {w:World} {env:Env} {e:Expr} {f:Str} {Q:Value->Shared->Prop} (hb:attributeBase e f env (eval e env)=eval e env)
 (h:wpAny (model prog w) A (eval e env) (fun o s₁=>wpAny (model prog w) A (getAttr o f true) Q E s₁) E s):wpAny (model prog w) A (eval (.Attribute e f pos) env) Q E s:=
 Attribute_any_ h (by rw [arm_eval_Attribute,hb])
end
noncomputable def K2 (K:W.Frag) (ta:TE) (f:Str):TE:=fun σ H Q=>ta σ H fun x H1=>∃ a C dx fs v,x=.ref a/\H1 a=some (.ins C dx fs)/\Cls K C/\NoAttr K C f/\fs.lookup f=some v/\Q v H1
noncomputable def LF (K:W.Frag) (ta tv:TE) (f:Str):TS:=fun D σ H=>tv σ H fun y H1=>ta σ H1 fun x H2=>∃ a C dx fs,x=.ref a/\H2 a=some (.ins C dx fs)/\Cls K C/\NoAttr K C f/\fs.length<1000/\
 D.nx σ (upd H2 a (.ins C dx (mC f y fs)))
section
variable {o e value:Expr} {f:Str} {pos' tpos:Pos} {ta tv:TE}
theorem wO (he:PE X e ta) (hb:attributeBase e f X.env (eval e X.env)=eval e X.env):PE X (.Attribute e f pos) (K2 X.K ta f):=by
 intro pins s σ H Q I h
 refine EA hb (thn (he pins s σ H _ I h) fun u s1 ⟨x,H1,I1,rx,a,C,dx,fs,v,ex,ea,c,n,l,q⟩=>?_)
 subst ex
 obtain rfl:u=Value.ref a:=rx
 exact uT I1 ea c n l fun u' s2 I2 ru=>⟨v,H1,I2,ru,q⟩
theorem EX (ha:PE X o ta) (hv:PE X value tv) (hs:swapsWith value (some (.Attribute o f pos')) pos.line X.env=pure false):PS X (.Assign [.Attribute o f pos'] value pos) (LF X.K ta tv f):=by
 intro pins s σ H D I h
 refine plainObj_wpAny_Assign_Attribute (thn (hv pins s σ H _ I h) fun u s1 ⟨y,H1,I1,ry,q⟩=>thn (ha pins s1 σ H1 _ I1 q) fun ov s2 ⟨x,H2,I2,rx,a,C,dx,fs,ex,ea,c,n,l,q2⟩=>?_) hs
 subst ex
 obtain rfl:ov=Value.ref a:=rx
 exact vX I2 ea c n l ry fun s3 I3=>⟨σ,_,I3,q2⟩
end
section
variable {A:Around} {Q:Value->Shared->Prop} {c:Value} {b:Bool}
inductive TyOf (K:W.Frag) (H:Hp):V->Value->Prop where
 | non:TyOf K H .non (.type "NoneType")
 | bl (x:Bool):TyOf K H (.bl x) (.type "bool")
 | int (i:Int):TyOf K H (.int i) (.type "int")
 | str (x:Str):TyOf K H (.str x) (.type "str")
 | flt (x:UInt64):TyOf K H (.flt x) (.type "float")
 | lst {a:Addr} {xs:List V} (e:H a=some (.lst xs)):TyOf K H (.ref a) (.type "list")
 | frz {a:Addr} {o:Obj} {xs:List V} (e:H a=some (.frz o (.lst xs))):TyOf K H (.ref a) (.type "list")
 | tup {a:Addr} {xs:List V} (e:H a=some (.tup xs)):TyOf K H (.ref a) (.type "tuple")
 | dK {a:Addr} {kvs:List (Key×V)} (e:H a=some (.dK kvs)):TyOf K H (.ref a) (.type "dict")
 | dT {a:Addr} {kvs:List (List Key×V)} (e:H a=some (.dT kvs)):TyOf K H (.ref a) (.type "dict")
 | ins {a C dx:Addr} {fs:List (Str×V)} (e:H a=some (.ins C dx fs)) (cl:Cls K C) (ha:W.findIn K (.ref C) "__class__"=some (some (.builtin "object.__class__")))
   (hn:W.specialIn K (.builtin "object.__class__") "__get__"=some (some (.builtin "getset_descriptor.__get__"))) (htk:W.takesIn K (.builtin "object.__class__")=some true)
   (hm:W.mroIn K C (.type "object")=some true):TyOf K H (.ref a) (.ref C)
end
structure Room (k:Nat) (A:Around):Prop where
 hd:A.handled=none
 dp:A.depth+3 * k+5<recursionLimit
 un:A.units+16 * k+200<cLine
theorem Room.mono {A:Around} (r:Room k A) (h:j<=k):Room j A:=⟨r.hd,by have:=r.dp;omega,by have:=r.un;omega⟩
theorem Room.deeper {A:Around} (r:Room (k+1) A) (env:Env):Room k (A.deeper env):=
 ⟨r.hd,by have:=r.dp;show A.depth+1+3 * k+5<_;omega,by have:=r.un;show A.units+3+16 * k+200<_;omega⟩
theorem Room.in1 {A:Around} (r:Room (k+1) A):Room k A.in1:=
 ⟨r.hd,by have:=r.dp;show A.depth+3 * k+5<_;omega,by have:=r.un;show A.units+1+16 * k+200<_;omega⟩
theorem uS {A:Around} {kw:List (Str×Value)}:(A.under (.builtin "type.__call__" ⟨.ref C::us,kw⟩)).depth=A.depth+1:=by
 first|rfl|simp [Around.under,Code.weight,Code.isCreation,Code.isGuard,Code.isCaller,Code.frames,Code.isFrame,guardIds]
theorem vF {A:Around} {kw:List (Str×Value)}:(A.under (.builtin "type.__call__" ⟨.ref C::us,kw⟩)).units=A.units+1:=by
 first|rfl|simp [Around.under,Code.cUnits,Code.frames,Code.isFrame]
theorem Room.make {A:Around} (r:Room (k+1) A) (C:Addr) (us:List Value) (kw:List (Str×Value)):Room k (A.under (.builtin "type.__call__" ⟨.ref C::us,kw⟩)):=
 ⟨r.hd,by have:=r.dp;rw [uS];omega,by have:=r.un;rw [vF];omega⟩
theorem Room.depth {A:Around} (r:Room k A):A.depth<recursionLimit:=by have:=r.dp;omega
theorem Room.units {A:Around} (r:Room k A):A.units+64<cLine:=by have:=r.un;omega
noncomputable def Ir:TA:=fun _ H Q=>Q [] H
noncomputable def Bo (ta:TE) (tr:TA):TA:=fun σ H Q=>ta σ H fun x H1=>tr σ H1 fun xs H2=>Q (x::xs) H2
section
variable {e:Expr} {te:TE} {t:TA}
theorem jb:PA X [] Ir:=fun _ _ _ _ H Q I h=>Calls.spliced_nil ⟨[],H,I,.nil,h⟩
theorem dJ (ha:PE X e te) (hr:PA X es t) (hs:starEach (e::es) X.env=(false,eval e X.env)::starEach es X.env:=by rfl):PA X (e::es) (Bo te t):=by
 intro pos pins s σ H Q I h
 rw [hs]
 show wpAny _ _ (spliced ((false,eval e X.env)::backTo pos (starEach es X.env))) _ _ s
 refine Calls.spliced_cons (thn (ha pins s σ H _ I h) fun u s1 ⟨x,H1,I1,r1,q1⟩=>?_)
 exact thn (hr pos pins s1 σ H1 _ I1 q1) fun us s2 ⟨xs,H2,I2,r2,q2⟩=>⟨x::xs,H2,I2,.cons r1 r2,q2⟩
noncomputable def Ln (t:TA):TE:=fun σ H Q=>t σ H fun xs H1=>xs.length<=sizeLine/\∀ p,H1 p=none->Q (.ref p) (upd H1 p (.tup xs))
noncomputable def KR (t:TA):TE:=fun σ H Q=>t σ H fun xs H1=>xs.length<=sizeLine/\∀ p,H1 p=none->Q (.ref p) (upd H1 p (.lst xs))
theorem EG {x1} (h:PA X es t):PE X (.Tuple es x1 pos) (Ln t):=by
 intro pins s σ H Q I hq
 refine wpAny_Tuple_spliced (thn (h pos pins s σ H _ I hq) fun us s1 ⟨xs,H1,I1,r,z,q⟩=>⟨by rw [<- r.length];exact z,?_⟩)
 have hf:H1 s1.heap.objs.size=none:=I1.hok.fresh (Nat.le_refl _)
 refine ⟨.ref s1.heap.objs.size,upd H1 s1.heap.objs.size (.tup xs),I1.laid (t':=s1.toks) (fun b u e=>Heap.get?_push_of_some _ e) (Nat.le_refl _) ?_,rfl,q _ hf⟩
 exact ⟨z,us,r,⟨_,Heap.get?_push_size _ rfl,rfl,_,rfl⟩⟩
theorem G9 (h:PA X es t):PE X (.List es pos) (KR t):=by
 intro pins s σ H Q I hq
 refine wpAny_List_spliced (thn (h pos pins s σ H _ I hq) fun us s1 ⟨xs,H1,I1,r,z,q⟩=>⟨by rw [<- r.length];exact z,?_⟩)
 have hf:H1 s1.heap.objs.size=none:=I1.hok.fresh (Nat.le_refl _)
 refine ⟨.ref s1.heap.objs.size,upd H1 s1.heap.objs.size (.lst xs),I1.laid (t':=s1.toks) (fun b u e=>Heap.get?_push_of_some _ e) (Nat.le_refl _) ?_,rfl,q _ hf⟩
 exact ⟨z,us,0,r,Heap.get?_push_size _ rfl⟩
end
noncomputable abbrev Sp:=List V->Hp->VK->XK->Prop
noncomputable abbrev CXT:=List Env->Hp->Shared->XK->Value->Shared->Prop
structure Env0 (P:Program) (w:World) (K:W.Frag) (mg:Str->Option Value) (base:Heap) (A:Around) (outer:List Env) (s:Shared) (H:Hp):Prop where
 frames:A.frames=some outer
 mod:Mod K mg base
 bs:∀ b o,base.get? b=some o->s.heap.get? b=some o/\H b=none
 bsz:base.objs.size<=s.heap.objs.size
 funs:s.heap.FunFrames base outer
 frf:∀ b∈frs outer,H b=none
 hok:HOk P w H s.heap
 bare:AllBare s.gens
 tabs:TabsIn base H
noncomputable def CE (outer:List Env) (P:Program) (w:World) (H:Hp) (s:Shared) (Q:VK) (u:Value) (s':Shared):Prop:=
 ∃ v H',s'.os=s.os/\AllBare s'.gens/\Un (frs outer) [] H H' s.heap s'.heap/\HOk P w H' s'.heap/\RelV v u/\Q v H'
noncomputable def CR (CX:CXT) (outer:List Env) (P:Program) (w:World) (H:Hp) (s:Shared) (Q:VK) (E:XK) (r:Result) (s':Shared):Prop:=
 match r with
 | .ok (.ret u)=>CE outer P w H s Q u s'
 | .ok _=>False
 | .error e=>CX outer H s E e s'
structure FnOk (P:Program) (w:World) (K:W.Frag) (mg:Str->Option Value) (base:Heap) (CX:CXT) (k:Nat) (f:Addr) (fd:FuncData) (ps:List Str) (sp:Sp):Prop where
 len:∀ vs H Q E,sp vs H Q E->vs.length=ps.length
 run:∀ (A:Around) (outer:List Env) (s:Shared) (H:Hp) (args:Args) (us:List Value) (vs:List V) (Q:VK) (E:XK),Room k A->Env0 P w K mg base A outer s H->BindsTo s fd args (ps.zip us)->Vals vs us->sp vs H Q E->
  codeAny (model P w) A (.call (.ref f) args) (CR CX outer P w H s Q E) s
theorem FnOk.imp {w:World} {K:W.Frag} {mg:Str->Option Value} {base:Heap} {CX:CXT} {sp sp':Sp} (F:FnOk P w K mg base CX k f fd ps sp)
 (h:∀ vs H Q E,sp' vs H Q E->sp vs H Q E):FnOk P w K mg base CX k f fd ps sp':=
 ⟨fun vs H Q E q=>F.len vs H Q E (h _ _ _ _ q),fun A outer s H args us vs Q E hr he hb hv hs=>F.run A outer s H args us vs Q E hr he hb hv (h _ _ _ _ hs)⟩
theorem Env0.make {w:World} {K:W.Frag} {mg:Str->Option Value} {base:Heap} {A:Around} {outer:List Env} (e:Env0 P w K mg base A outer s H) (C:Addr) (us:List Value) (kw:List (Str×Value)) :
  Env0 P w K mg base (A.under (.builtin "type.__call__" ⟨.ref C::us,kw⟩)) outer s H:=⟨by first|exact e.frames|(simpa [Around.under,Code.envs,Code.isFrame,pushEnvs] using e.frames),e.mod,e.bs,e.bsz,e.funs,e.frf,e.hok,e.bare,e.tabs⟩
section
theorem Inv.env0 (I:Inv X pins σ H s):Env0 X.prog X.w X.K X.mg X.base X.A X.stack s H:=
 ⟨I.ok.frames,I.ok.mod,I.bs,Nat.le_trans I.ok.bsz I.sz,I.stack,I.stkFree,I.hok,I.bare,I.ok.tabs.un I.base⟩
theorem Inv.after {Q:VK} (I:Inv X pins σ H s) (h:CE X.stack X.prog X.w H s Q u s'):EP X pins σ Q u s':=by
 obtain ⟨v,H',os,bare,un,hok,r,q⟩:=h
 obtain ⟨hh,g,d,t,os'⟩:=s'
 obtain rfl:os'=s.os:=os
 exact ⟨v,H',I.call (h':=hh) (g':=g) (d':=d) (t':=t) (ch:=[]) un hok bare (fun b z=>absurd z (by simp)),r,q⟩
end
noncomputable def Binds (K:W.Frag) (fd:FuncData) (ps:List Str) (ds:List Value):Prop:=
 ∀ (s:Shared) (us:List Value),K.In s.heap->(us++ds).length=ps.length->BindsTo s fd ⟨us,[]⟩ (ps.zip (us++ds))
theorem Binds.all {K:W.Frag} (h:∀ us:List Value,us.length=ps.length->bindArgs fd ⟨us,[]⟩=pure (ps.zip us)):Binds K fd ps []:=fun s us _ hl=>by
 rw [List.append_nil] at hl ⊢
 exact .of_eq (h us hl)
section
variable {CX:CXT} {sp:Sp} {dvs:List V} {ds:List Value} {E:XK} {m:Str} {p apos:Pos} {e o:Expr} {ta:TE} {t:TA}
structure Mk (K:W.Frag) (C f:Addr):Prop where
 makes:W.makesIn K C=true
 init:W.findIn K (.ref C) "__init__"=some (some (.ref f))
 fn:W.isFn K (.ref f)=true
 kp:W.keepIn K (.ref C)=true
end
section
variable {CX:CXT} {ks:List Str} {sp:Sp} {E:XK} {m:Str} {p apos kpos:Pos} {e o:Expr} {kws:List Keyword} {te ta:TE} {t tk:TA} {nm:Option Str}
structure KBinds (K:W.Frag) (fd:FuncData) (ps ks:List Str) (g:List Value->List Value->List Value) (gV:List V->List V->List V):Prop where
 to:∀ (s:Shared) (us ws:List Value),K.In s.heap->(g us ws).length=ps.length->BindsTo s fd ⟨us,ks.zip ws⟩ (ps.zip (g us ws))
 rel:∀ {vs:List V} {us:List Value} {zs:List V} {ws:List Value},Vals vs us->Vals zs ws->Vals (gV vs zs) (g us ws)
variable {g:List Value->List Value->List Value} {gV:List V->List V->List V}
end
structure FnScope (N P:List Str) (sc:Scope):Prop where
 kind:sc.kind=.function
 co:sc.isCoroutine=false
 gen:sc.isGenerator=false
 nd:N.Nodup
 pre:N.take P.length=P
 par:∀ x∈P,sc.names.lookup x=some .local\/sc.names.lookup x=some .cell
 nofree:∀ y∈sc.names,y.2 ≠ .free
theorem pJ {kindOf:Str->Option NameKind} {x:Str}:∀ {binds:List (Str×Value)} {m:Str->Option Value},(∀ v,(x,v) ∉ binds)->bindL kindOf binds m x=m x
 | [],_,_=>rfl
 | (n,v)::r,m,h=>by
  unfold bindL
  rw [pJ fun w hw=>h w (List.mem_cons_of_mem _ hw)]
  split
  ·have:x≠n:=by rintro rfl;exact h v List.mem_cons_self
   simp [this]
  ·rfl
theorem qj {kindOf:Str->Option NameKind} {x:Str}:∀ {binds:List (Str×Value)} {m:Str->Option Value},(∀ v,(x,v) ∉ binds)->bindC kindOf binds m x=m x
 | [],_,_=>rfl
 | (n,v)::r,m,h=>by
  unfold bindC
  rw [qj fun w hw=>h w (List.mem_cons_of_mem _ hw)]
  split
  ·rfl
  ·have:x≠n:=by rintro rfl;exact h v List.mem_cons_self
   simp [this]
theorem pA {kindOf:Str->Option NameKind} {x:Str} {v:Value}:∀ {P:List Str} {vs:List Value} {i:Nat} {m:Str->Option Value},P.Nodup->P[i]?=some x->vs[i]?=some v->kindOf x=some .local->
  bindL kindOf (P.zip vs) m x=some v
 | [],_,_,_,_,h,_,_=>by simp at h
 | _::_,[],_,_,_,_,h,_=>by simp at h
 | p::P,w::vs,0,m,nd,h1,h2,hk=>by
  simp at h1 h2;subst h1;subst h2
  show bindL kindOf ((p,w)::P.zip vs) m p=_
  unfold bindL
  rw [pJ fun v hv=>(List.nodup_cons.mp nd).1 (List.of_mem_zip hv).1,if_pos hk]
  simp
 | p::P,w::vs,i+1,m,nd,h1,h2,hk=>by
  show bindL kindOf ((p,w)::P.zip vs) m x=_
  unfold bindL
  exact pA (i:=i) (List.nodup_cons.mp nd).2 (by simpa using h1) (by simpa using h2) hk
theorem pS {kindOf:Str->Option NameKind} {x:Str} {v:Value}:∀ {P:List Str} {vs:List Value} {i:Nat} {m:Str->Option Value},P.Nodup->P[i]?=some x->vs[i]?=some v->kindOf x≠some .local->
  bindC kindOf (P.zip vs) m x=some v
 | [],_,_,_,_,h,_,_=>by simp at h
 | _::_,[],_,_,_,_,h,_=>by simp at h
 | p::P,w::vs,0,m,nd,h1,h2,hk=>by
  simp at h1 h2;subst h1;subst h2
  show bindC kindOf ((p,w)::P.zip vs) m p=_
  unfold bindC
  rw [qj fun v hv=>(List.nodup_cons.mp nd).1 (List.of_mem_zip hv).1,if_neg hk]
  simp
 | p::P,w::vs,i+1,m,nd,h1,h2,hk=>by
  show bindC kindOf ((p,w)::P.zip vs) m x=_
  unfold bindC
  exact pS (i:=i) (List.nodup_cons.mp nd).2 (by simpa using h1) (by simpa using h2) hk
noncomputable def start (N:List Str) (vs:List V):St:=vs.map some++List.replicate (N.length - vs.length) none
noncomputable def gj (CX:CXT) (P:Program) (w:World) (K:W.Frag) (mg:Str->Option Value) (base:Heap) (N:List Str) (qual:Str) (scope:Scope) (f:Addr) (cd:Value) (A:Around) (outer:List Env) (s:Shared) (H:Hp) (E:XK):Cx where
 prog:=P
 w:=w
 K:=K
 mg:=mg
 base:=base
 A:=A.deeper (envOfC qual scope s.heap.objs.size f cd)
 N:=N
 s₀:=s
 H₀:=H
 env:=envOfC qual scope s.heap.objs.size f cd
 outer:=outer
 stack:=envOfC qual scope s.heap.objs.size f cd::outer
 ex:=[]
 calm:=true
 fn:=fun _=>true
 pn:=[]
 xe:=fun e s'=>wpAny (model P w) (A.deeper (envOfC qual scope s.heap.objs.size f cd)) (leaving (envOfC qual scope s.heap.objs.size f cd) e) (fun _ s''=>CX outer H s E e s'') (fun e' s''=>CX outer H s E e' s'') s'
theorem tN {sc:Scope} {n:Nat} (h:sc.names.lookup x=some .cell):∃ c,(cellsFrom n sc.names []).lookup x=some c:=by
 have q:=W.cellsFrom_some sc.names n [] (.inl h)
 exact Option.isSome_iff_exists.mp q
theorem xP {CX:CXT} {w:World} {K:W.Frag} {mg:Str->Option Value} {base:Heap} {N:List Str} {cd:Value} {A:Around} {outer:List Env} {s1:Shared} {E:XK}
 (S:FnScope N ps scope) (hd:A.handled=none) (e0:Env0 P w K mg base A outer s H) (hl:vs.length=ps.length) (r:Vals vs us)
 (x:InCallC s s.heap.objs.size (bindL (envOfC qual scope s.heap.objs.size f cd).kindOf (ps.zip us) fun _=>none) (cellsFrom (s.heap.objs.size+1) scope.names []) (bindC (envOfC qual scope s.heap.objs.size f cd).kindOf (ps.zip us) fun _=>none) s1) :
  Inv (gj CX P w K mg base N qual scope f cd A outer s H E) [] (start N vs) H s1:=by
 have hpl:ps.length<=N.length:=by have:=congrArg List.length S.pre;rw [List.length_take] at this;omega
 obtain ⟨h1,tk,rfl,hk⟩:=x.done
 have noA:∀ b:Addr,b ∉ (gj CX P w K mg base N qual scope f cd A outer s H E).ex:=fun b z=>absurd (show b∈([]:List Addr) from z) (by simp)
 refine ⟨⟨e0.mod,S.kind,rfl,rfl,Nat.le_refl _,fun y z c h1 h2=>?_,fun y hy=>?_,fun y c _ h=>?_,fun _=>hd,Around.frames_deeper e0.frames,.inr ⟨rfl,rfl⟩,fun b z=>absurd z (noA b),e0.bs,e0.bsz,fun b _ _=>noA b,fun b z=>absurd z (noA b),e0.funs,e0.frf,e0.tabs⟩,
  rfl,e0.bare,Un.kept hk,⟨_,x.toInCall.ns,fun i y v h1 h2 h3=>?_⟩,fun y c h=>⟨_,x.cell y c h⟩,e0.hok.fresh (Nat.le_refl _),fun y c h=>?_,fun p hp=>absurd (show p∈([]:List (Addr×Obj)) from hp) (by simp),e0.hok.kept hk,?_⟩
 ·exact name_of_addr x.apart (PySem.mem_of_lookup h1) (PySem.mem_of_lookup h2)
 ·have hy:scope.names.lookup y=some .cell\/scope.names.lookup y=some .free:=hy
  rcases hy with hy|hy
  ·exact tN hy
  ·exact absurd rfl (S.nofree _ (PySem.mem_of_lookup hy))
 ·exact Nat.le_of_lt (x.above y c (PySem.mem_of_lookup h))
 ·have hi:i<vs.length:=by
   unfold start at h2
   by_cases hi:i<vs.length
   ·exact hi
   ·rw [List.getElem?_append_right (by simpa using hi)] at h2
    rw [List.getElem?_replicate] at h2
    split at h2 <;> cases h2
  have ha:vs[i]?=some v:=by
   unfold start at h2
   rw [List.getElem?_append_left (by simpa using hi),List.getElem?_map] at h2
   cases e:vs[i]? with
   | none=>rw [e] at h2;cases h2
   | some a=>rw [e] at h2;cases h2;rfl
  obtain ⟨u,hu,rv⟩:=r.get ha
  have hp:ps[i]?=some y:=by
   rw [<- S.pre,List.getElem?_take_of_lt (by omega)];exact h1
  have ndP:ps.Nodup:=by rw [<- S.pre];exact S.nd.sublist (List.take_sublist _ _)
  refine ⟨u,rv,?_⟩
  rcases S.par y (List.mem_of_getElem? hp) with k|k
  ·exact .inl ⟨k,pA ndP hp hu k⟩
  ·obtain ⟨c,e⟩:=tN (n:=s.heap.objs.size+1) k
   refine .inr ⟨.inl k,c,e,?_⟩
   have q:=x.cell y c e
   rw [pS ndP hp hu (by show scope.names.lookup y≠_;rw [k];decide)] at q
   exact q
 ·exact e0.hok.fresh (Nat.le_of_lt (x.above y c (PySem.mem_of_lookup h)))
 ·unfold start
  show _=N.length
  rw [List.length_append,List.length_map,List.length_replicate]
  omega
theorem Dc {CX:CXT} {w:World} {K:W.Frag} {mg:Str->Option Value} {base:Heap} {name:Str} {params:Arguments} {body:List Stmt} {dV kV doc pm ct:Value}
 {N:List Str} {sp:Sp} (lk:K.lookup f=some ⟨oc,od,.func (W.fnOf name qual params body scope dV kV doc pm an cdv ct),osl⟩) (hcd:W.codeIn K cdv qual=true) (S:FnScope N ps scope)
 (len:∀ vs H Q E,sp vs H Q E->vs.length=ps.length)
 (hbody:∀ (A:Around) (outer:List Env) (s:Shared) (H:Hp) (vs:List V) (Q:VK) (E:XK),Room k (A.deeper (envOfC qual scope s.heap.objs.size f cdv))->sp vs H Q E->
 ∃ t,PSs (gj CX P w K mg base N qual scope f cdv A outer s H E) body t/\t { nx:=fun _ H'=>Q .non H',rt:=Q } (start N vs) H) :
  FnOk P w K mg base CX (k+1) f (W.fnOf name qual params body scope dV kV doc pm an cdv ct) ps sp:=by
 refine ⟨len,fun A outer s H args us vs Q E hr e0 hb r hsp=>?_⟩
 have hl:=len _ _ _ _ hsp
 have KX:K.In s.heap:=e0.mod.kin.keeps fun b o e=>(e0.bs b o e).1
 have lim:s.heap.NoLimit:=e0.mod.nolimit.keeps fun b o e=>(e0.bs b o e).1
 have hkind:∀ y∈ps.zip us,scope.names.lookup y.1=some .local\/(scope.names.lookup y.1=some .cell/\((cellsFrom (s.heap.objs.size+1) scope.names []).lookup y.1).isSome=true):=fun ⟨n,v⟩ hy=>by
  rcases S.par n (List.of_mem_zip hy).1 with q|q
  ·exact .inl q
  ·exact .inr ⟨q,W.cellsFrom_some _ _ _ (.inl q)⟩
 refine codeAny_call_function hr.depth (KX _ _ lk) rfl S.co S.gen rfl (W.codeRec_of KX hcd) (hb _ _ _ _ ?_)
 refine wpAny_newFunctionEnv_cells S.kind hkind fun env he s1 x=>?_
 subst he
 refine ⟨lim.keeps x.toInCall.keep,codeAny_func ?_⟩
 obtain ⟨t,ht,hq⟩:=hbody A outer s H vs Q E (hr.deeper _) hsp
 have I:Inv (gj CX P w K mg base N qual scope f cdv A outer s H E) [] (start N vs) H s1:=xP S hr.hd e0 hl r x
 refine wpAny_mono (ht [] s1 (start N vs) H _ I hq) (fun fl s' hs=>?_) fun e s' hs=>hs
 have fin:∀ {σ':St} {H':Hp} {v:V} {u:Value},Inv (gj CX P w K mg base N qual scope f cdv A outer s H E) [] σ' H' s'->RelV v u->Q v H'->CE outer P w H s Q u s':=
  fun {σ' H' v u} J rv q=>⟨v,H',J.os,J.bare,J.base,J.hok,rv,q⟩
 cases fl with
 | ret u=>
  obtain ⟨v,σ',H',J,rv,q⟩:=hs
  exact fin J rv q
 | next=>
  obtain ⟨σ',H',J,q⟩:=hs
  exact fin (v:=V.non) (u:=Value.none) J rfl q
 | brk=>
  obtain ⟨_,_,_,q⟩:=hs
  exact False.elim q
 | cont=>
  obtain ⟨_,_,_,q⟩:=hs
  exact False.elim q
end L2
variable {CX:L2.CXT}
namespace L2
open PySem PySem.Spec PyProof.Rows
section
variable {p:Pos} {e:Expr} {t:TA} {id T:String} {r:List V->Hp->VK->Prop}
noncomputable def tCB (r:List V->Hp->VK->Prop) (t:TA):TE:=fun σ H Q=>t σ H fun vs H1=>r vs H1 Q
theorem nD (hc:jN X (.builtin id) r) (hg:Gl X x) (hm:X.mg x=none) (hv:bootBuiltins x=some (.builtin id)) (ha:PA X (e::es) t) (hn:x ≠ "__name__":=by decide) (hdb:(x==("__debug__":Str))=false:=by decide)
 (he:starEach (e::es) X.env=(false,eval e X.env)::starEach es X.env:=by rfl) (hpl:(backTo pos (starEach es X.env)).any (·.1)=false:=by rfl):PE X (.Call (.Name x p) (e::es) [] pos) (tCB r t):=by
 intro pins s σ H Q I h
 refine wpAny_Call_Name_kw (ka I hg hm hv ?_ hn hdb)
 exact callWith_builtin1 (thn (ha pos pins s σ H _ I h) fun us s1 ⟨vs,H1,I1,r1,q1⟩=>hc pins s1 σ H1 vs us Q I1 r1 q1) he hpl
theorem lc (hc:jN X (.type T) r) (hg:Gl X x) (hm:X.mg x=none) (hv:bootBuiltins x=some (.type T)) (ha:PA X (e::es) t) (hn:x ≠ "__name__":=by decide) (hdb:(x==("__debug__":Str))=false:=by decide)
 (he:starEach (e::es) X.env=(false,eval e X.env)::starEach es X.env:=by rfl) (hpl:(backTo pos (starEach es X.env)).any (·.1)=false:=by rfl):PE X (.Call (.Name x p) (e::es) [] pos) (tCB r t):=by
 intro pins s σ H Q I h
 refine wpAny_Call_Name_kw (ka I hg hm hv ?_ hn hdb)
 exact callWith_type1 (thn (ha pos pins s σ H _ I h) fun us s1 ⟨vs,H1,I1,r1,q1⟩=>hc pins s1 σ H1 vs us Q I1 r1 q1) he hpl
end
end L2
namespace HT
open PySem PyProof.Rows
section
open PySem.SeqAt
open PySem.AutoSeq1 (wpAny_loadPart')
open PySem.MeetsSeq PySem.MeetsSeq2 PySem.MeetsSeq3
end
section
variable {prog:Program} {w:World} {A:Around}
theorem cat_tup {t:Addr} {vs ws:List Value} {Q:Value->Shared->Prop} (ht:IsTup s.heap t vs.toArray) (hb:IsTup s.heap b ws.toArray) (hv:vs≠[])
 (h1:ws=[]->Q (.ref t) s) (h2:ws≠[]->Q (.ref s.heap.objs.size) { s with heap:=s.heap.push { cls:=.type "tuple",data:=.seq (vs++ws).toArray } })
 (hsz:vs.length+ws.length<=sizeLine):wpAny (model prog w) A (binaryOp .Add (.ref t) (.ref b)) Q E s:=by
 obtain ⟨⟨cls,dd,data,sl⟩,ho,hc,n,hd⟩:=id ht
 obtain ⟨⟨cls2,dd2,data2,sl2⟩,ho2,hc2,n2,hd2⟩:=id hb
 simp only at hc hd hc2 hd2
 subst hc hd hc2 hd2
 have e:vs.toArray++ws.toArray=(vs++ws).toArray:=by simp
 by_cases hw:ws=[]
 ·exact concat_meets ⟨_,ho,rfl⟩ ⟨_,ho2,rfl⟩ noFill_tuple_add seq_tuple_add F.slot_tuple_add F.entry_tuple_add (F.args_tuple_add_2 _ _)
   (tuple_addW1 t b vs.toArray ws.toArray n n2 dd dd2 sl sl2 (by simpa using hv) (by simp [hw])) ⟨ho,ho2,h1 hw⟩
 ·refine concat_meets ⟨_,ho,rfl⟩ ⟨_,ho2,rfl⟩ noFill_tuple_add seq_tuple_add F.slot_tuple_add F.entry_tuple_add (F.args_tuple_add_2 _ _)
   (tuple_addW2 t b vs.toArray ws.toArray n n2 dd dd2 sl sl2 (by simpa using hv) (by simpa using hw) (by rw [List.size_toArray,List.size_toArray];exact hsz)) ⟨ho,ho2,?_⟩
  rw [e]
  exact h2 hw
noncomputable def sIx (n d:Nat):Option Int->Nat
 | none=>d
 | some v=>if v<0 then (v+(n:Int)).toNat else min v.toNat n
theorem sIx_none (n d:Nat):sIx n d none=d:=rfl
theorem sIx_nat (n d k:Nat):sIx n d (some (k:Int))=min k n:=by
 show (if (k:Int)<0 then ((k:Int)+(n:Int)).toNat else min (k:Int).toNat n)=min k n
 rw [if_neg (by omega),Int.toNat_natCast]
theorem sIx_le (n d:Nat) (hd:d<=n) (o:Option Int):sIx n d o<=n:=by
 cases o with
 | none=>exact hd
 | some v=>
  show (if v<0 then (v+(n:Int)).toNat else min v.toNat n)<=n
  by_cases hv:v<0
  ·rw [if_pos hv];omega
  ·rw [if_neg hv];exact Nat.min_le_right _ _
theorem xI (v:Int) (n d:Nat):(if v<0 then max (v+(n:Int)) 0 else min v (n:Int))=((sIx n d (some v):Nat):Int):=by
 show (if v<0 then max (v+(n:Int)) 0 else min v (n:Int))=(((if v<0 then (v+(n:Int)).toNat else min v.toNat n):Nat):Int)
 by_cases hv:v<0
 ·simp only [if_pos hv];omega
 ·simp only [if_neg hv];omega
theorem vR (lo hi:Option Int) (n:Nat):Builtin.Slice.sliceAdjust lo hi 1 (n:Int)=(((sIx n 0 lo:Nat):Int),((sIx n n hi:Nat):Int)):=by
 have h1 : ¬ ((1:Int)<0):=by omega
 unfold Builtin.Slice.sliceAdjust
 simp only [h1,if_false]
 refine Prod.ext ?_ ?_
 ·cases lo with
  | none=>rfl
  | some v=>exact xI v n 0
 ·cases hi with
  | none=>rfl
  | some v=>exact xI v n n
theorem uY (i j:Nat):Builtin.Slice.slicePlaces (i:Int) (j:Int) 1=j - i:=by
 unfold Builtin.Slice.slicePlaces
 have h1:(1:Int) > 0:=by omega
 simp only [h1,if_true,Int.ediv_one]
 split <;> omega
theorem mG {v:Value} {o:Option Int} {Q:Option Int->Shared->Prop} (p:IsPart v o) (h:Q o s):wpAny (model prog w) A (Builtin.Slice.slicePartIndex v) Q E s:=by
 cases p with
 | none=>exact slicePart_none h
 | int i t=>exact slicePart_int h
theorem sliceApplied_gen {sl:Addr} {vl vu:Value} {lo hi:Option Int} {n:Nat} {Q:Int×Int×Nat->Shared->Prop} (hs:s.heap.IsSliceOf sl vl vu .none) (pl:IsPart vl lo) (pu:IsPart vu hi)
 (h:Q (((sIx n 0 lo:Nat):Int),1,sIx n n hi - sIx n 0 lo) s):wpAny (model prog w) A (Builtin.Slice.sliceApplied (.ref sl) (pure (n:Int))) Q E s:=by
 obtain ⟨os,hos,hcs,hds⟩:=id hs
 unfold Builtin.Slice.sliceApplied Builtin.Slice.sliceFields
 refine wpAny_bind (wpAny_bind (wpAny_field hos hds (x:=vl) rfl (wpAny_bind (wpAny_field hos hds (x:=vu) rfl (wpAny_bind (wpAny_field hos hds (x:=.none) rfl (wpAny_pure ?_)))))))
 refine wpAny_bind (slicePart_none ?_)
 show wpAny _ _ (if ((1:Int)==0)=true then _ else _) _ _ s
 rw [if_neg (by decide)]
 refine wpAny_bind (mG pl (wpAny_bind (mG pu (wpAny_bind (wpAny_pure ?_)))))
 show wpAny _ _ (match Builtin.Slice.sliceAdjust lo hi 1 (n:Int) with|(lo,hi)=>pure (lo,(1:Int),Builtin.Slice.slicePlaces lo hi 1)) _ _ s
 rw [vR lo hi n]
 show wpAny _ _ (pure (((sIx n 0 lo:Nat):Int),(1:Int),Builtin.Slice.slicePlaces ((sIx n 0 lo:Nat):Int) ((sIx n n hi:Nat):Int) 1)) _ _ s
 rw [uY]
 exact wpAny_pure h
theorem zH (xs:Array Value) (i k:Nat):((List.range k).filterMap fun (m:Nat)=>xs[((i:Int)+(m:Int) * 1).toNat]?).toArray=((xs.toList.drop i).take k).toArray:=by
 have e:(fun (m:Nat)=>xs[((i:Int)+(m:Int) * 1).toNat]?)=fun m=>xs[i+m]?:=by
  funext m
  have:((i:Int)+(m:Int) * 1).toNat=i+m:=by omega
  rw [this]
 rw [e]
 have:=pick_run xs i k
 rw [List.filterMap_map] at this
 have e2:((fun x=>xs[x]?) ∘ fun x=>i+x)=fun m=>xs[i+m]?:=rfl
 rw [e2] at this
 rw [this]
theorem getItem_tuple_cut {t sl:Addr} {items:Array Value} {vl vu:Value} {lo hi:Option Int} {Q:Value->Shared->Prop} (ht:IsTup s.heap t items) (hs:s.heap.IsSliceOf sl vl vu .none) (pl:IsPart vl lo) (pu:IsPart vu hi)
 (hw : ¬ (sIx items.size 0 lo=0/\sIx items.size items.size hi=items.size))
 (h:Q (.ref s.heap.objs.size) { s with heap:=s.heap.push { cls:=.type "tuple",data:=.seq ((items.toList.drop (sIx items.size 0 lo)).take (sIx items.size items.size hi - sIx items.size 0 lo)).toArray } })
 (hsz:items.size<=sizeLine):wpAny (model prog w) A (getItem (.ref t) (.ref sl)) Q E s:=by
 have htake:sizeOk (.seq ((items.toList.drop (sIx items.size 0 lo)).take (sIx items.size items.size hi - sIx items.size 0 lo)).toArray):=by
  show ((items.toList.drop (sIx items.size 0 lo)).take (sIx items.size items.size hi - sIx items.size 0 lo)).toArray.size<=sizeLine
  rw [List.size_toArray,List.length_take,List.length_drop,Array.length_toList]
  omega
 have hj:sIx items.size items.size hi<=items.size:=sIx_le _ _ (Nat.le_refl _) hi
 obtain ⟨os,hos,hcs,hds⟩:=id hs
 have hTs:s.TypeIs (.ref sl) "slice":=⟨os,hos,hcs⟩
 unfold getItem
 try with_reducible refine wpAny_holding ?_
 first|refine wpAny_bind (wpAny_pure ?_)|skip
 refine wpAny_bind (wpAny_sequenceKey ht.typeIs (by decide) ?_)
 refine wpAny_bind (wpAny_callSpecial?_slot (name:=Str.ofString "__getitem__") ht.typeIs slot_tuple_getitem
  (wpAny_call_entry slot_tuple_getitem ht.typeIs entry_tuple_getitem ?_ (args_tuple_getitem _ _)))
 show wpAny _ _ (Builtin.Tuple.tupleItemsOf (.ref t)>>=_) _ _ s
 refine wpAny_bind (tupleItemsOf_ ht ?_)
 refine wpAny_bind (wpAny_typeOf hTs ?_)
 rw [if_pos (by decide)]
 refine wpAny_bind (sliceApplied_gen hs pl pu ?_)
 have hno : ¬ ((((sIx items.size 0 lo:Nat):Int)==0 && (1:Int)==1 && (sIx items.size items.size hi - sIx items.size 0 lo)==items.size)=true):=by
  intro q
  rw [Bool.and_eq_true,Bool.and_eq_true] at q
  have q1:((sIx items.size 0 lo:Nat):Int)=0:=eq_of_beq q.1.1
  have q2:sIx items.size items.size hi - sIx items.size 0 lo=items.size:=eq_of_beq q.2
  exact hw ⟨by omega,by omega⟩
 show wpAny _ _ (if (((sIx items.size 0 lo:Nat):Int)==0 && (1:Int)==1 && (sIx items.size items.size hi - sIx items.size 0 lo)==items.size)=true then _ else _) _ _ s
 rw [if_neg hno,zH]
 first
  | exact wpAny_bind (m:=Builtin.Tuple.tupleExact _) (wpAny_newObj_type (wpAny_pure ⟨_,rfl,wpAny_pure h⟩) htake)
  | exact wpAny_bind (m:=Builtin.Tuple.tupleExact _) (wpAny_newObj_type (wpAny_bind (wpAny_pure (wpAny_pure ⟨_,rfl,wpAny_pure h⟩))) htake)
  | exact wpAny_bind (wpAny_bind (m:=Builtin.Tuple.tupleExact _) (wpAny_newObj_type (wpAny_pure (wpAny_pure ⟨_,rfl,wpAny_pure h⟩)) htake))
  | exact wpAny_bind (wpAny_bind (m:=Builtin.Tuple.tupleExact _) (wpAny_newObj_type (wpAny_pure ⟨_,rfl,wpAny_pure h⟩) htake))
end
end HT
namespace L2
open PySem PySem.Spec PyProof.Rows
noncomputable abbrev TO:=St->Hp->(Option Int->Hp->Prop)->Prop
noncomputable def PO (X:Cx) (e:Option Expr) (t:TO):Prop:=
 ∀ (pins:List (Addr×Obj)) (s:Shared) (σ:St) (H:Hp) (Q:Option Int->Hp->Prop),Inv X pins σ H s->t σ H Q->
  wpAny (model X.prog X.w) X.A (evalPart e X.env) (fun u s'=>∃ o H',Inv X pins σ H' s'/\IsPart u o/\Q o H') X.xe s
noncomputable def CU:TO:=fun _ H Q=>Q none H
noncomputable def HW (t:TE):TO:=fun σ H Q=>t σ H fun x H1=>∃ i,x=.int i/\Q (some i) H1
section
variable {e:Expr} {te:TE} {lo hi:Option Expr} {tl th:TO} {p2:Pos}
theorem DE:PO X none CU:=by
 intro pins s σ H Q I h
 rw [evalPart_none]
 exact wpAny_pure ⟨none,H,I,.none,h⟩
theorem Ey (h:PE X e te):PO X (some e) (HW te):=by
 intro pins s σ H Q I hw
 rw [evalPart_some]
 refine thn (h pins s σ H _ I hw) fun u s1 ⟨x,H1,I1,r1,q1⟩=>?_
 obtain ⟨i,rfl,q⟩:=q1
 obtain ⟨t,rfl⟩:=r1
 exact ⟨some i,H1,I1,.int i t,q⟩
noncomputable def SlR (X:Cx) (r:V->Option Int->Option Int->Hp->VK->Prop):Prop:=
 ∀ (pins:List (Addr×Obj)) (s:Shared) (σ:St) (H:Hp) (x:V) (v vl vu:Value) (lo hi:Option Int) (sl:Addr) (Q:VK),Inv X pins σ H s->RelV x v->s.heap.IsSliceOf sl vl vu .none->IsPart vl lo->IsPart vu hi->r x lo hi H Q->
  ∃ T id,typeLookup (.type T) "__getitem__"=pure (some (.builtin id))/\s.TypeIs v T/\wpAny (model X.prog X.w) X.A (getItem v (.ref sl)) (EP X pins σ Q) X.xe s
theorem SlR.or {r r':V->Option Int->Option Int->Hp->VK->Prop} (h:SlR X r) (h':SlR X r'):SlR X (fun x lo hi H Q=>r x lo hi H Q\/r' x lo hi H Q):=by
 intro pins s σ H x v vl vu lo hi sl Q I rx hs pl pu q
 rcases q with q|q
 ·exact h pins s σ H x v vl vu lo hi sl Q I rx hs pl pu q
 ·exact h' pins s σ H x v vl vu lo hi sl Q I rx hs pl pu q
noncomputable def tSl (r:V->Option Int->Option Int->Hp->VK->Prop) (te:TE) (tl th:TO):TE:=fun σ H Q=>te σ H fun x H1=>tl σ H1 fun l H2=>th σ H2 fun u H3=>r x l u H3 Q
theorem A7 {r:V->Option Int->Option Int->Hp->VK->Prop} (hr:SlR X r) (he:PE X e te) (hl:PO X lo tl) (hu:PO X hi th):PE X (.Subscript e (.Slice lo hi none p2) pos) (tSl r te tl th):=by
 intro pins s σ H Q I h
 refine Subscript_ (thn (he pins s σ H _ I h) fun v s1 ⟨x,H1,I1,r1,q1⟩=>?_)
 refine wpAny_Slice (thn (hl pins s1 σ H1 _ I1 q1) fun vl s2 ⟨l,H2,I2,pl,q2⟩=>thn (hu pins s2 σ H2 _ I2 q2) fun vu s3 ⟨u,H3,I3,pu,q3⟩=>?_)
 rw [evalPart_none]
 refine wpAny_pure ?_
 have I4:Inv X pins σ H3 { s3 with heap:=s3.heap.push { cls:=.type "slice",data:=.fields #[vl,vu,.none] } }:=I3.kept (t':=s3.toks) fun b ob q=>Heap.get?_push_of_some _ q
 obtain ⟨T,id,hT,ht,hg⟩:=hr pins { s3 with heap:=s3.heap.push { cls:=.type "slice",data:=.fields #[vl,vu,.none] } } σ H3 x v vl vu l u s3.heap.objs.size Q I4 r1 (Heap.IsSliceOf.new ..) pl pu q3
 show wpAny (model X.prog X.w) X.A (subscriptTail e (.Slice lo hi none p2) v (.ref s3.heap.objs.size)) (EP X pins σ Q) X.xe { s3 with heap:=s3.heap.push { cls:=.type "slice",data:=.fields #[vl,vu,.none] } }
 exact tail_any (ops:=[.ref s3.heap.objs.size,v]) ht hT hg (by with_unfolding_all rfl)
noncomputable def B5 (xs:List V) (lo hi:Option Int):List V:=(xs.drop (HT.sIx xs.length 0 lo)).take (HT.sIx xs.length xs.length hi - HT.sIx xs.length 0 lo)
theorem lV (xs:List V) (lo hi:Option Int):(B5 xs lo hi).length<=xs.length:=by
 unfold B5
 rw [List.length_take,List.length_drop]
 omega
noncomputable def JZ (K:W.Frag):V->Option Int->Option Int->Hp->VK->Prop:=fun x lo hi H Q=>∃ a xs,x=.ref a/\SqT K H a xs/\
 ¬ (HT.sIx xs.length 0 lo=0/\HT.sIx xs.length xs.length hi=xs.length)/\∀ p,H p=none->Q (.ref p) (upd H p (.tup (B5 xs lo hi)))
theorem sl_tup:SlR X (JZ X.K):=by
 intro pins s σ H x v vl vu lo hi sl Q I rx hs pl pu h
 obtain ⟨a,xs,rfl,hx,hw,q⟩:=h
 cases rx
 obtain ⟨its,r,ht,hz⟩:=I.tuple hx
 have hlen:its.toArray.size=xs.length:=by rw [List.size_toArray];exact r.length.symm
 refine ⟨"tuple",_,slot_tuple_getitem.lookup,ht.typeIs,?_⟩
 refine HT.getItem_tuple_cut ht hs pl pu (by rw [hlen];exact hw) ?_ (by rw [hlen];exact hz)
 rw [hlen]
 refine ⟨.ref s.heap.objs.size,_,I.laid (t':=s.toks) (o:=.tup (B5 xs lo hi)) (fun b ob q=>Heap.get?_push_of_some _ q) (Nat.le_refl _) ?_,rfl,q _ (I.hok.fresh (Nat.le_refl _))⟩
 exact ⟨Nat.le_trans (lV xs lo hi) hz,_,(r.drop (HT.sIx xs.length 0 lo)).take (HT.sIx xs.length xs.length hi - HT.sIx xs.length 0 lo),IsTup.new _ _⟩
noncomputable def HY (K:W.Frag):R2:=fun x y H Q=>∃ a b xs ys,x=.ref a/\y=.ref b/\SqT K H a xs/\SqT K H b ys/\xs≠[]/\xs.length+ys.length<=sizeLine/\
 (ys=[]->Q (.ref a) H)/\(ys≠[]->∀ p,H p=none->Q (.ref p) (upd H p (.tup (xs++ys))))
theorem Vals.nil_iff (r:Vals xs us):us=[] ↔ xs=[]:=by
 cases r with
 | nil=>simp
 | cons _ _=>simp
theorem Cv:OpR X (binaryOp .Add) (HY X.K):=by
 intro pins s σ H x y v u Q I rx ry h
 obtain ⟨a,b,xs,ys,rfl,rfl,ha,hb,hx,hz,q1,q2⟩:=h
 cases rx
 cases ry
 obtain ⟨its,r1,p1,_⟩:=I.tuple ha
 obtain ⟨its2,r2,p2,_⟩:=I.tuple hb
 refine HT.cat_tup p1 p2 (fun z=>hx (r1.nil_iff.mp z)) (fun z=>⟨.ref a,H,I,rfl,q1 (r2.nil_iff.mp z)⟩) (fun z=>?_) (by rw [<- r1.length,<- r2.length];exact hz)
 refine ⟨.ref s.heap.objs.size,_,I.laid (t':=s.toks) (o:=.tup (xs++ys)) (fun b ob q=>Heap.get?_push_of_some _ q) (Nat.le_refl _) ?_,rfl,q2 (fun w=>z (r2.nil_iff.mpr w)) _ (I.hok.fresh (Nat.le_refl _))⟩
 exact ⟨by rw [List.length_append];exact hz,_,r1.append r2,IsTup.new _ _⟩
end
noncomputable def ixN (n:Nat) (i:Int):Option Nat:=if 0<=i then (if i<n then some i.toNat else none) else if -(n:Int)<=i then some (i+n).toNat else none
noncomputable def atI {α:Type} (xs:List α) (i:Int):Option α:=(ixN xs.length i).bind fun j=>xs[j]?
theorem zd {n:Nat} {i:Int} (h:ixN n i=some j):seqIndex? i n=some j/\j<n/\-(n:Int)<=i/\i<n:=by
 unfold ixN at h
 by_cases h0:0<=i
 ·rw [if_pos h0] at h
  by_cases h1:i<n
  ·rw [if_pos h1] at h
   have e:i.toNat=j:=Option.some.inj h
   exact ⟨by rw [seqIndex_of h0 h1,e],by omega,by omega,h1⟩
  ·rw [if_neg h1] at h;cases h
 ·rw [if_neg h0] at h
  by_cases h1 : -(n:Int)<=i
  ·rw [if_pos h1] at h
   have e:(i+n).toNat=j:=Option.some.inj h
   exact ⟨by rw [seqIndex_neg (by omega) h1,e],by omega,h1,by omega⟩
  ·rw [if_neg h1] at h;cases h
theorem ss {α:Type} {xs:List α} {i:Int} {v:α} (h:atI xs i=some v):∃ j,seqIndex? i xs.length=some j/\xs[j]?=some v/\j<xs.length/\-(xs.length:Int)<=i/\i<xs.length:=by
 unfold atI at h
 cases e:ixN xs.length i with
 | none=>rw [e] at h;cases h
 | some j=>
  rw [e] at h
  obtain ⟨h1,h2,h3,h4⟩:=zd e
  exact ⟨j,h1,h,h2,h3,h4⟩
theorem rX {α:Type} {xs:List α} {v:α} (h:xs[j]?=some v):atI xs (j:Int)=some v:=by
 have hj:j<xs.length:=(List.getElem?_eq_some_iff.mp h).1
 have e:ixN xs.length (j:Int)=some j:=by
  unfold ixN
  rw [if_pos (by omega),if_pos (by omega)];simp
 unfold atI;rw [e];exact h
noncomputable def ni (b:Expr):Prop:=∀ o i,subscripted b false o i=operate [o,i] (getItem o i)
noncomputable def IxR (X:Cx) (r:R2):Prop:=
 ∀ (value slice:Expr) (pins:List (Addr×Obj)) (s:Shared) (σ:St) (H:Hp) (x y:V) (v u:Value) (Q:VK),Inv X pins σ H s->RelV x v->RelV y u->r x y H Q->
  subscripted slice false v u=operate [v,u] (getItem v u)->wpAny (model X.prog X.w) X.A (subscriptTail value slice v u) (EP X pins σ Q) X.xe s
noncomputable def MtR (X:Cx) (id:String) (r:V->List V->Hp->VK->Prop):Prop:=
 ∀ (pins:List (Addr×Obj)) (s:Shared) (σ:St) (H:Hp) (x:V) (xs:List V) (v:Value) (us:List Value) (Q:VK),Inv X pins σ H s->RelV x v->Vals xs us->r x xs H Q->
  wpAny (model X.prog X.w) X.A (call (.builtin id) (v::us)) (EP X pins σ Q) X.xe s
section
variable {a b:Expr} {ta tb:TE}
theorem IxR.or {r r':R2} (h:IxR X r) (h':IxR X r'):IxR X (fun x y H Q=>r x y H Q\/r' x y H Q):=by
 intro value slice pins s σ H x y v u Q I rx ry q hs
 rcases q with q|q
 ·exact h value slice pins s σ H x y v u Q I rx ry q hs
 ·exact h' value slice pins s σ H x y v u Q I rx ry q hs
theorem Ek {r:R2} (hr:IxR X r) (ha:PE X a ta) (hb:PE X b tb) (hs:ni b):PE X (.Subscript a b pos) (tOp r ta tb):=by
 intro pins s σ H Q I h
 exact Subscript_ (Jp ha hb I h fun v u s2 x y H2 I2 rx ry q=>hr a b pins s2 σ H2 x y v u Q I2 rx ry q (hs _ _))
noncomputable def Ka (K:W.Frag):R2:=fun x y H Q=>∃ p xs i v,x=.ref p/\y=.int i/\SqL K H p xs/\atI xs i=some v/\Q v H
noncomputable def Km (K:W.Frag):R2:=fun x y H Q=>∃ p xs i v,x=.ref p/\y=.int i/\SqT K H p xs/\atI xs i=some v/\Q v H
noncomputable def Kk:R2:=fun x y H Q=>∃ z i c,x=.str z/\y=.int i/\z.length<=sizeLine/\atI z.cps.toList i=some c/\Q (.str ⟨#[c]⟩) H
theorem ix_list:IxR X (Ka X.K):=by
 intro value slice pins s σ H x y v u Q I rx ry h hs
 obtain ⟨p,xs,i,z,rfl,rfl,hq,he,q⟩:=h
 cases rx
 obtain ⟨t,rfl⟩:=ry
 obtain ⟨its,r,pl,hz⟩:=I.list hq
 obtain ⟨j,h1,h2,h3,h4,h5⟩:=ss he
 obtain ⟨w,ew,rw'⟩:=r.get h2
 have hl:=r.length
 have hn:=lA
 have fin:EP X pins σ Q w s:=⟨z,H,I,rw',q⟩
 by_cases h0:0<=i
 ·have hj:i.toNat=j:=by
   rw [seqIndex_of h0 h5] at h1
   exact Option.some.inj h1
  exact item_listR pl.isList h0 (by omega) (by rw [hj];simpa using ew) fin hs
 ·have hj:(i+(its.toArray.size:Int)).toNat=j:=by
   rw [seqIndex_neg (by omega) h4] at h1
   rw [List.size_toArray,<- hl]
   exact Option.some.inj h1
  exact subscriptTail_builtinR (x:=w) pl.isList.typeIs slot_list_getitem.lookup
   (wpAny_getItem_list_neg (Q:=fun r s'=>r=w/\EP X pins σ Q r s') pl.isList (by omega) (by rw [List.size_toArray] <;> omega) (by omega) (by rw [hj];simpa using ew) ⟨rfl,fin⟩) hs
theorem ix_tup:IxR X (Km X.K):=by
 intro value slice pins s σ H x y v u Q I rx ry h hs
 obtain ⟨p,xs,i,z,rfl,rfl,hq,he,q⟩:=h
 cases rx
 obtain ⟨t,rfl⟩:=ry
 obtain ⟨its,r,pl,hz⟩:=I.tuple hq
 obtain ⟨j,h1,h2,h3,h4,h5⟩:=ss he
 obtain ⟨w,ew,rw'⟩:=r.get h2
 have hl:=r.length
 have hn:=lA
 have fin:EP X pins σ Q w s:=⟨z,H,I,rw',q⟩
 exact subscriptTail_builtinR (x:=w) pl.typeIs slot_tuple_getitem.lookup
  (getItem_tuple (j:=j) (Q:=fun r s'=>r=w/\EP X pins σ Q r s') pl (by omega) (by omega) (by rw [List.size_toArray,<- hl];exact h1) (by simpa using ew) ⟨rfl,fin⟩) hs
theorem Fs:IxR X Kk:=by
 intro value slice pins s σ H x y v u Q I rx ry h hs
 obtain ⟨z,i,c,rfl,rfl,hz,he,q⟩:=h
 obtain ⟨t,rfl⟩:=rx
 obtain ⟨t',rfl⟩:=ry
 obtain ⟨j,h1,h2,h3,h4,h5⟩:=ss he
 have hl:z.cps.toList.length=z.length:=by simp [Str.length]
 rw [hl] at h1 h4 h5
 have hn:=lA
 exact tail_any (typeIs_str s z t) slot_str_getitem.lookup (getItem_str (c:=c) (by
  have e1:decide (i < -(2 ^ 63:Int))=false:=decide_eq_false (by omega)
  have e2:decide (i ≥ 2 ^ 63)=false:=decide_eq_false (by omega)
  rw [e1,e2,Bool.or_false]) (by rw [h1];simpa using h2) ⟨.str ⟨#[c]⟩,H,I.tok _,⟨_,rfl⟩,q⟩) hs
noncomputable def rIx (K:W.Frag):R2:=fun x y H Q=>Ka K x y H Q\/Km K x y H Q\/Kk x y H Q
theorem FF:IxR X (rIx X.K):=ix_list.or (ix_tup.or Fs)
theorem vP (its:List Value) (n j:Nat) (u:Value):Obj.mapSeq (·.setIfInBounds j u) { cls:=.type "list",data:=.seq its.toArray n }={ cls:=.type "list",data:=.seq (its.set j u).toArray n }:=by
 simp [Obj.mapSeq]
theorem Inv.lst (I:Inv X pins σ H s) (h:H p=some (.lst xs)) :
  ∃ (its:List Value) (n:Nat),Vals xs its/\s.heap.get? p=some { cls:=.type "list",data:=.seq its.toArray n }/\xs.length<=sizeLine:=by
 obtain ⟨z,its,n,r,e⟩:=I.hok p _ h
 exact ⟨its,n,r,e,z⟩
theorem Inv.lstUpd {ys:List V} {its':List Value} {n n':Nat} {f:Obj->Obj} (I:Inv X pins σ H s) (h:H p=some (.lst xs))
 (ho:s.heap.get? p=some { cls:=.type "list",data:=.seq its.toArray n }) (hf:f { cls:=.type "list",data:=.seq its.toArray n }={ cls:=.type "list",data:=.seq its'.toArray n' }) (r:Vals ys its') (hz:ys.length<=sizeLine) (t:Nat) :
  Inv X pins σ (upd H p (.lst ys)) { s with heap:=s.heap.update p f,toks:=t }:=by
 have e:(s.heap.update p f).get? p=some { cls:=.type "list",data:=.seq its'.toArray n' }:=by
  rw [Heap.get?_update_self f ho (by rw [hf] <;> rfl),hf]
 refine I.write (x:=p) (e:=p) (by rw [h];trivial) (.inl rfl) (fun b u hb q=>(Heap.get?_update_other _ _ (Ne.symm hb)).trans q) ⟨_,e⟩ ?_
 exact ⟨hz,its',n',r,e⟩
noncomputable def Ja:V->V->V->Hp->(Hp->Prop)->Prop:=fun o i v H Q=>∃ p xs k j,o=.ref p/\i=.int k/\H p=some (.lst xs)/\ixN xs.length k=some j/\Q (upd H p (.lst (xs.set j v)))
theorem A0:Jb X Ja:=by
 intro pins s σ H o i v ov iv u Q I ro ri rv h
 obtain ⟨p,xs,k,j,rfl,rfl,hp,hj,q⟩:=h
 cases ro
 obtain ⟨t,rfl⟩:=ri
 obtain ⟨its,n,r,ho,hz⟩:=I.lst hp
 obtain ⟨h1,h2,h3,h4⟩:=zd hj
 have hl:=r.length
 have hn:=lA
 have I':Inv X pins σ (upd H p (.lst (xs.set j v))) { s with heap:=s.heap.update p (Obj.mapSeq (·.setIfInBounds j u)) }:=
  I.lstUpd hp ho (vP its n j u) (r.set rv j) (by rw [List.length_set];exact hz) s.toks
 by_cases h0:0<=k
 ·have hk:k.toNat=j:=by
   rw [seqIndex_of h0 h4] at h1
   exact Option.some.inj h1
  exact W.ki_setAt ho h0 (by omega) (by rw [List.size_toArray,<- hl];exact h4) (by rw [hk];exact ⟨_,I',q⟩)
 ·have hk:(k+(its.toArray.size:Int)).toNat=j:=by
   rw [seqIndex_neg (by omega) h3] at h1
   rw [List.size_toArray,<- hl]
   exact Option.some.inj h1
  exact W.ki_setBack ho (by omega) (by rw [List.size_toArray,<- hl];exact h3) (by omega) (by rw [hk];exact ⟨_,I',q⟩)
theorem pY (lo hi:Option Int) (n:Nat):(sliceBounds lo hi none n).1=((HT.sIx n 0 lo:Nat):Int)/\(sliceBounds lo hi none n).2.1=((HT.sIx n n hi:Nat):Int)/\(sliceBounds lo hi none n).2.2=1:=by
 refine ⟨?_,?_,rfl⟩
 ·cases lo with
  | none=>simp [sliceBounds,HT.sIx]
  | some i=>
   simp only [sliceBounds,HT.sIx,Option.getD_none,show (1:Int) > 0 by decide,if_true]
   by_cases h:i<0
   ·simp only [h,if_true] <;> omega
   ·simp only [h,if_false] <;> omega
 ·cases hi with
  | none=>simp [sliceBounds,HT.sIx]
  | some i=>
   simp only [sliceBounds,HT.sIx,Option.getD_none,show (1:Int) > 0 by decide,if_true]
   by_cases h:i<0
   ·simp only [h,if_true] <;> omega
   ·simp only [h,if_false] <;> omega
theorem nM (its:List Value) (lo hi:Option Int):slicePick its.toArray lo hi none=((its.drop (HT.sIx its.length 0 lo)).take (HT.sIx its.length its.length hi - HT.sIx its.length 0 lo)).toArray:=by
 obtain ⟨h1,h2,h3⟩:=pY lo hi its.toArray.size
 unfold slicePick
 rw [h1,h2,h3]
 simp only [sliceRange_one,pick_run,List.size_toArray] <;> rfl
noncomputable def J7 (K:W.Frag):V->Option Int->Option Int->Hp->VK->Prop:=fun x lo hi H Q=>∃ a xs,x=.ref a/\SqL K H a xs/\∀ p,H p=none->Q (.ref p) (upd H p (.lst (B5 xs lo hi)))
theorem DA:SlR X (J7 X.K):=by
 intro pins s σ H x v vl vu lo hi sl Q I rx hs pl pu h
 obtain ⟨a,xs,rfl,hx,q⟩:=h
 cases rx
 obtain ⟨its,r,ht,hz⟩:=I.list hx
 have hlen:=r.length
 refine ⟨"list",_,slot_list_getitem.lookup,ht.isList.typeIs,?_⟩
 refine wpAny_getItem_list_slice ht.isList hs pl pu .none (by simp) ?_ (by rw [List.size_toArray] <;> omega)
 rw [nM,<- hlen]
 refine ⟨.ref s.heap.objs.size,_,I.laid (t':=s.toks) (o:=.lst (B5 xs lo hi)) (fun b ob q=>Heap.get?_push_of_some _ q) (Nat.le_refl _) ?_,rfl,q _ (I.hok.fresh (Nat.le_refl _))⟩
 exact ⟨Nat.le_trans (lV xs lo hi) hz,_,0,(r.drop (HT.sIx xs.length 0 lo)).take (HT.sIx xs.length xs.length hi - HT.sIx xs.length 0 lo),Heap.get?_push_size _ rfl⟩
theorem qG:jN X (.builtin "len") (fun xs H Q=>∃ p ys,xs=[.ref p]/\(SqL X.K H p ys\/SqT X.K H p ys)/\Q (.int ys.length) H):=by
 intro pins s σ H xs us Q I r h
 obtain ⟨p,ys,rfl,hq,q⟩:=h
 obtain ⟨u,rfl,rx⟩:=wn r
 cases rx
 have hn:=lA
 rcases hq with hq|hq
 ·obtain ⟨its,r',pl,hz⟩:=I.list hq
  have hlen:=r'.length
  exact Calls.call_len_list pl.isList (by simp only [List.size_toArray] <;> omega) ⟨.int ys.length,H,I.tok _,⟨s.toks+1,by rw [List.size_toArray,hlen]⟩,q⟩
 ·obtain ⟨its,r',pl,hz⟩:=I.tuple hq
  have hlen:=r'.length
  exact len_tuple pl (by simp only [List.size_toArray] <;> omega) ⟨.int ys.length,H,I.tok _,⟨s.toks+1,by rw [List.size_toArray,hlen]⟩,q⟩
theorem qe:jN X (.type "list") (fun xs H Q=>∃ p ys,xs=[.ref p]/\(SqL X.K H p ys\/SqT X.K H p ys)/\∀ l,H l=none->Q (.ref l) (upd H l (.lst ys))):=by
 intro pins s σ H xs us Q I r h
 obtain ⟨p,ys,rfl,hq,q⟩:=h
 obtain ⟨u,rfl,rx⟩:=wn r
 cases rx
 have fin:∀ (its:List Value),Vals ys its->ys.length<=sizeLine->∀ (h':Heap) (c':Nat),(∀ b o',s.heap.get? b=some o'->h'.get? b=some o')->
   h'.get? s.heap.objs.size=some { cls:=.type "list",dict:=none,data:=.seq its.toArray c',slots:=#[] }->EP X pins σ Q (.ref s.heap.objs.size) { s with heap:=h' }:=fun its r' hz h' c' kp e=>
  ⟨.ref s.heap.objs.size,_,I.laid (t':=s.toks) kp (Nat.le_refl _) (show ObjOk X.prog X.w _ h' _ (.lst ys) from ⟨hz,its,c',r',e⟩),rfl,q _ (I.hok.fresh (Nat.le_refl _))⟩
 rcases hq with hq|hq
 ·obtain ⟨its,r',pl,hz⟩:=I.list hq
  have hlen:=r'.length
  obtain ⟨o,ho,hc,n,hd⟩:=pl.isList
  exact call_list_seq p (.inl rfl) ho hc hd (fun h' c' kp e=>fin its r' hz h' c' kp e) (by simp only [List.size_toArray] <;> omega)
 ·obtain ⟨its,r',pl,hz⟩:=I.tuple hq
  have hlen:=r'.length
  obtain ⟨o,ho,hc,n,hd⟩:=pl
  exact call_list_seq p (.inr rfl) ho hc hd (fun h' c' kp e=>fin its r' hz h' c' kp e) (by simp only [List.size_toArray] <;> omega)
theorem nc:jN X (.type "tuple") (fun xs H Q=>∃ p ys,xs=[.ref p]/\((SqL X.K H p ys/\∀ l,H l=none->Q (.ref l) (upd H l (.tup ys)))\/(SqT X.K H p ys/\Q (.ref p) H))):=by
 intro pins s σ H xs us Q I r h
 obtain ⟨p,ys,rfl,h⟩:=h
 obtain ⟨u,rfl,rx⟩:=wn r
 cases rx
 rcases h with ⟨hq,q⟩|⟨hq,q⟩
 ·obtain ⟨its,r',pl,hz⟩:=I.list hq
  have hlen:=r'.length
  refine call_tuple_list pl.isList (fun h' kp=>?_) (by simp only [List.size_toArray] <;> omega)
  have I1:Inv X pins σ H { s with heap:=h' }:=I.kept (t':=s.toks) kp
  have I2:Inv X pins σ (upd H h'.objs.size (.tup ys)) { s with heap:=h'.push { cls:=.type "tuple",data:=.seq its.toArray } }:=
   I1.laid (t':=s.toks) (fun b o e=>Heap.get?_push_of_some _ e) (Nat.le_refl _) (show ObjOk X.prog X.w _ _ _ (.tup ys) from ⟨hz,its,r',IsTup.new _ _⟩)
  exact ⟨.ref h'.objs.size,_,I2,rfl,q _ (I1.hok.fresh (Nat.le_refl _))⟩
 ·obtain ⟨its,r',pl,hz⟩:=I.tuple hq
  exact call_tuple_same pl ⟨.ref p,H,I,rfl,q⟩
noncomputable def tyV (K:W.Frag) (T:String) (x:V) (H:Hp):Prop:=match x with
 | .str _=>T="str"
 | .int _=>T="int"
 | .ref p=>(T="list"/\∃ xs,SqL K H p xs)\/(T="tuple"/\∃ o,K.lookup p=some o/\o.cls=.type "tuple"/\o.dict=none)\/
   (T="dict"/\((∃ kvs,H p=some (.dK kvs))\/∃ kvs,H p=some (.dT kvs)))\/(T="set"/\∃ S n,H p=some (.set S n))
 | _=>False
theorem Gk {T:String} {x:V} {v:Value} (I:Inv X pins σ H s) (r:RelV x v) (ty:tyV X.K T x H) :
  s.TypeIs v T/\∀ a,v=.ref a->∃ ob,s.heap.get? a=some ob/\ob.dict=none:=by
 cases x with
 | str z=>
  obtain ⟨t,rfl⟩:=r
  cases (show T="str" from ty)
  exact ⟨typeIs_str s z t,fun _ e=>nomatch e⟩
 | int i=>
  obtain ⟨t,rfl⟩:=r
  cases (show T="int" from ty)
  exact ⟨typeIs_int s i t,fun _ e=>nomatch e⟩
 | ref p=>
  cases r
  rcases ty with ⟨rfl,xs,hq⟩|⟨rfl,o,hk,hc,hd⟩|⟨rfl,hk⟩|⟨rfl,S,n,hk⟩
  ·obtain ⟨its,_,pl,_⟩:=I.list hq
   refine ⟨pl.isList.typeIs,fun a e=>?_⟩
   cases e
   obtain ⟨o,n,e,c,hd,_⟩:=pl
   exact ⟨o,e,hd⟩
  ·refine ⟨⟨o,I.kIn p o hk,hc⟩,fun a e=>?_⟩
   cases e
   exact ⟨o,I.kIn _ o hk,hd⟩
  ·have z:∃ o,s.heap.get? p=some o/\o.ExactDict:=by
    rcases hk with ⟨kvs,hk⟩|⟨kvs,hk⟩
    ·obtain ⟨_,_,_,_,o,_,_,e,ex,_⟩:=I.hok p _ hk
     exact ⟨o,e,ex⟩
    ·obtain ⟨_,_,_,_,o,_,_,e,ex,_⟩:=I.hok p _ hk
     exact ⟨o,e,ex⟩
   obtain ⟨o,e,ex⟩:=z
   refine ⟨⟨o,e,ex.1⟩,fun a e2=>?_⟩
   cases e2
   exact ⟨o,e,ex.2.1⟩
  ·obtain ⟨o,_,_,_,e,ex,_⟩:=I.hok p _ hk
   refine ⟨⟨o,e,ex.1⟩,fun a e2=>?_⟩
   cases e2
   exact ⟨o,e,ex.2.1⟩
 | _=>exact False.elim ty
noncomputable def tBM (K:W.Frag) (T:String) (r:V->List V->Hp->VK->Prop) (to:TE) (t:TA):TE:=fun σ H Q=>to σ H fun x H1=>tyV K T x H1/\t σ H1 fun xs H2=>r x xs H2 Q
variable {o e:Expr} {to:TE} {t:TA} {name:Str} {apos cpos:Pos} {T id:String} {r:V->List V->Hp->VK->Prop}
theorem Bp (pa:PlainAttrs T) (slot:Slot T name id) (hty:typeOf (.builtin id)=pure (.type "method_descriptor")) (hm:MtR X id r) (ho:PE X o to) (ha:PA X (e::es) t)
 (hbase:attributeBase o name X.env (eval o X.env)=eval o X.env:=by rfl)
 (hfew:((backTo cpos (starEach (e::es) X.env)).all (fun x=>!x.1) && (backToKw cpos (keywordEach [] X.env)).all (fun x=>x.1.isSome)
 && decide ((e::es).length+([]:List Keyword).length+(if ([]:List Keyword).isEmpty then 0 else 1)<30))=true:=by rfl)
 (hline:(apos.endLine==cpos.line)=true:=by rfl) (hs:starEach (e::es) X.env=(false,eval e X.env)::starEach es X.env:=by rfl) (hplain:(backTo cpos (starEach es X.env)).any (·.1)=false:=by rfl) :
  PE X (.Call (.Attribute o name apos) (e::es) [] cpos) (tBM X.K T r to t):=by
 intro pins s σ H Q I h
 refine wpAny_Call_method_late hbase hfew hline rfl (thn (ho pins s σ H _ I h) fun v s1 ⟨x,H1,I1,r1,ty,q1⟩=>?_)
 obtain ⟨h1,h2⟩:=Gk I1 r1 ty
 refine ⟨T,id,pa,slot,hty,h1,h2,?_⟩
 have hA:=ha cpos pins s1 σ H1 _ I1 q1
 rw [hs] at hA ⊢
 refine Calls.callWith_builtin (by show (false || (backTo cpos (starEach es X.env)).any (·.1))=false;rw [hplain] <;> rfl) (Calls.evalArgs_plain ?_)
 exact thn hA fun us s2 ⟨vs,H2,I2,r2,q2⟩=>hm pins s2 σ H2 x vs v us Q I2 r1 r2 q2
/- xs.append(e),list.index on a module's tuple .. are MtR facts of 06m -/
end
noncomputable def MtM (X:Cx) (id:String) (r:V->List V->Hp->VK->Prop):Prop:=
 ∀ (pins:List (Addr×Obj)) (s:Shared) (σ:St) (H:Hp) (x:V) (xs:List V) (v:Value) (us:List Value) (Q:VK),Inv X pins σ H s->RelV x v->Vals xs us->r x xs H Q->
  wpAny (model X.prog X.w) X.A (call (.builtin id) (v::us)) (EP X pins σ Q) X.xe s
theorem Vals.one:∀ {x:V} {us:List Value},Vals [x] us->∃ u,us=[u]/\RelV x u
 | _,_,.cons r .nil=>⟨_,rfl,r⟩
theorem Vals.two:∀ {x y:V} {us:List Value},Vals [x,y] us->∃ u v,us=[u,v]/\RelV x u/\RelV y v
 | _,_,_,.cons r (.cons q .nil)=>⟨_,_,rfl,r,q⟩
theorem Vals.rep (h:Vals xs us):∀ k:Nat,Vals (List.replicate k xs).flatten (List.replicate k us).flatten
 | 0=>.nil
 | k+1=>by
  rw [List.replicate_succ,List.replicate_succ,List.flatten_cons,List.flatten_cons]
  exact Vals.append h (Vals.rep h k)
theorem iE (its:List Value):∀ (k:Nat) (acc:List Value),
  List.foldl (fun x1 x2=>x1++x2) acc.toArray (List.replicate k its.toArray)=(acc++(List.replicate k its).flatten).toArray
 | 0,acc=>by simp
 | k+1,acc=>by
  have e:acc.toArray++its.toArray=(acc++its).toArray:=by simp
  have e2:(acc++its)++(List.replicate k its).flatten=acc++(List.replicate (k+1) its).flatten:=by
   rw [List.replicate_succ,List.flatten_cons,List.append_assoc]
  rw [<- e2,<- iE its k (acc++its),<- e,List.replicate_succ,List.foldl_cons]
section
variable {l:Addr} {ys zs:List V}
theorem Inv.lset {its':List Value} {n:Nat} {f:Array Value->Array Value} {t':Nat} (I:Inv X pins σ H s) (hH:H l=some (.lst xs))
 (e:s.heap.get? l=some { cls:=.type "list",data:=.seq its.toArray n }) (hf:f its.toArray=its'.toArray) (hv:Vals ys its') (hz:ys.length<=sizeLine) :
  Inv X pins σ (upd H l (.lst ys)) { s with heap:=s.heap.update l (Obj.mapSeq f),toks:=t' }:=by
 have q:=PySem.IsL.update e f
 rw [hf] at q
 refine I.write (x:=l) (e:=l) (by rw [hH];exact trivial) (.inl rfl) (fun b' u hb hu=>(Heap.get?_update_other s.heap (Obj.mapSeq f) (Ne.symm hb)).trans hu) ⟨_,q⟩ ?_
 exact ⟨hz,its',_,hv,q⟩
theorem Inv.lnew {t':Nat} (I:Inv X pins σ H s) (hv:Vals ys its) (hz:ys.length<=sizeLine) :
  Inv X pins σ (upd H s.heap.objs.size (.lst ys)) { s with heap:=s.heap.push { cls:=.type "list",data:=.seq its.toArray },toks:=t' }:=
 I.laid (fun _ _ q=>Heap.get?_push_of_some _ q) (Nat.le_refl _) ⟨hz,its,0,hv,Heap.get?_push_size _ rfl⟩
theorem Inv.fresh (I:Inv X pins σ H s):H s.heap.objs.size=none:=I.hok.fresh (Nat.le_refl _)
theorem Inv.lstM (I:Inv X pins σ H s) (hH:H l=some (.lst xs)):xs.length<=sizeLine/\∃ (its:List Value) (n:Nat),Vals xs its/\xs.length=its.length/\s.heap.get? l=some { cls:=.type "list",data:=.seq its.toArray n }:=by
 obtain ⟨z,its,n,r,e⟩:=I.hok l _ hH
 exact ⟨z,its,n,r,r.length,e⟩
theorem uJ {n:Nat} (h:n<=sizeLine):Builtin.List.listTooLong n=false:=by
 unfold Builtin.List.listTooLong
 exact decide_eq_false (by omega)
end
section
noncomputable def Es:V->List V->Hp->VK->Prop:=fun x vs H Q=>∃ l xs y,x=.ref l/\vs=[y]/\H l=some (.lst xs)/\xs.length<sizeLine/\Q .non (upd H l (.lst (xs++[y])))
theorem lQ:MtM X "list.append" Es:=by
 intro pins s σ H x vs v us Q I rx rv h
 obtain ⟨l,xs,y,rfl,rfl,hH,hz,q⟩:=h
 cases rx
 obtain ⟨u,rfl,ru⟩:=rv.one
 obtain ⟨z,its,n,r,hl,e⟩:=I.lstM hH
 refine call_meets F.slot_list_append ⟨_,e,rfl⟩ F.entry_list_append (F.args_list_append_2 _ _) (PySem.list_append l its.toArray n u (by rw [List.size_toArray];omega)) ⟨e,?_⟩
 refine ⟨.non,_,I.lset (its':=its++[u]) hH e (by simp) (r.append (.cons ru .nil)) ?_,rfl,q⟩
 rw [List.length_append,List.length_singleton]
 omega
noncomputable def Kb:R2:=fun x y H Q=>∃ l b xs zs,x=.ref l/\y=.ref b/\H l=some (.lst xs)/\H b=some (.lst zs)/\xs.length+zs.length<=sizeLine/\∀ p,H p=none->Q (.ref p) (upd H p (.lst (xs++zs)))
theorem op_cat:OpR X (binaryOp .Add) Kb:=by
 intro pins s σ H x y v u Q I rx ry h
 obtain ⟨l,b,xs,zs,rfl,rfl,hH,hB,hz,q⟩:=h
 cases rx
 cases ry
 obtain ⟨z,its,n,r,hl,e⟩:=I.lstM hH
 obtain ⟨z2,its2,n2,r2,hl2,e2⟩:=I.lstM hB
 refine PySem.P.add_list e e2 ?_ (by rw [List.size_toArray,List.size_toArray];omega)
 have ea:its.toArray++its2.toArray=(its++its2).toArray:=by simp
 rw [ea]
 exact ⟨.ref _,_,I.lnew (t':=s.toks) (r.append r2) (by rw [List.length_append];omega),rfl,q _ I.fresh⟩
noncomputable def J6:R2:=fun x y H Q=>∃ l k xs,x=.ref l/\y=.int k/\H l=some (.lst xs)/\-(2 ^ 63)<=k/\k<2 ^ 63/\xs.length * k.toNat<=sizeLine/\
 ∀ p,H p=none->Q (.ref p) (upd H p (.lst (List.replicate k.toNat xs).flatten))
theorem nV {α:Type} (xs:List α) (k:Nat):(List.replicate k xs).flatten.length=k * xs.length:=by
 induction k with
 | zero=>simp
 | succ k ih=>rw [List.replicate_succ,List.flatten_cons,List.length_append,ih,Nat.succ_mul,Nat.add_comm]
theorem Fb:OpR X (binaryOp .Mult) J6:=by
 intro pins s σ H x y v u Q I rx ry h
 obtain ⟨l,k,xs,rfl,rfl,hH,h1,h2,hz,q⟩:=h
 cases rx
 obtain ⟨t,rfl⟩:=ry
 obtain ⟨z,its,n,r,hl,e⟩:=I.lstM hH
 have hlen:its.toArray.size * k.toNat<=sizeLine:=by rw [List.size_toArray,<- hl];exact hz
 have hcap : ¬ its.toArray.size * k.toNat > (2 ^ 63 - 1) / 8:=by
  have:(sizeLine:Nat)<=(2 ^ 63 - 1) / 8:=by decide
  omega
 have hfit : ¬ (!Builtin.List.listFitsIndex k)=true:=by
  rw [fitsIndex_both h1 h2]
  exact Bool.false_ne_true
 have hlong : ¬ Builtin.List.listTooLong (its.toArray.size * k.toNat)=true:=by
  rw [uJ hlen]
  exact Bool.false_ne_true
 have hnew:List.foldl (fun x1 x2=>x1++x2) #[] (List.replicate (if its.toArray.isEmpty=true then 0 else k.toNat) its.toArray)=(List.replicate k.toNat its).flatten.toArray:=by
  have f0:∀ m:Nat,List.foldl (fun x1 x2=>x1++x2) #[] (List.replicate m its.toArray)=(List.replicate m its).flatten.toArray:=fun m=>by
   have:=iE its m []
   rw [List.nil_append] at this
   exact this
  rw [f0]
  cases its with
  | nil=>simp
  | cons a r'=>rw [if_neg (by simp)]
 refine wpAny_binaryOp_repeat_ref (T:="list") (U:="int") (by decide) ⟨_,e,rfl⟩ (fun s'=>typeIs_int s' k t) noFill_list_mul F.fills_int_mul F.slot_int_rmul repeat_list F.slot_int_index.lookup
  (call_meets F.slot_int_rmul (typeIs_int s k t) F.entry_int_rmul (F.args_int_rmul_2 _ _) (int___rmul___int_list k t l its.toArray n)
   ⟨e,rfl,⟨_,e,rfl⟩,call_meets F.slot_list_mul ⟨_,e,rfl⟩ F.entry_list_mul (F.args_list_mul_2 _ _) (AutoListH.list___mul___list_int_3 l its.toArray n k t hfit hcap hlong) ⟨e,?_⟩⟩)
 rw [hnew]
 exact ⟨.ref _,_,I.lnew (t':=s.toks) (r.rep k.toNat) (by rw [nV,Nat.mul_comm];exact hz),rfl,q _ I.fresh⟩
end
end L2
namespace Att
open PySem PySem.W PySem.Calls PyProof.Rows
theorem kr {P:Params}:∀ (ns:List Int) (vs:List Value),WellAll P h vs (ns.map WData.int)->IntsAre vs ns:=by
 intro ns
 induction ns with
 | nil=>
  intro vs w
  rw [List.map_nil] at w
  cases w
  exact .nil
 | cons n ns ih=>
  intro vs w
  rw [List.map_cons] at w
  cases w with
  | cons a b=>
   cases a
   exact .cons _ _ (ih _ b)
theorem xt {l:OpenLaw} {n:Nat} (hn:l.most=some n) {P:Params} {args:List WData} {vals:List Value}
 (hpre:l.row.toRowW.claim.pre args=true) (hwl:WellAll P h vals args) :
  ∃ a vs ns,vals=[Value.ref a]/\args=[WData.list (ns.map WData.int)]/\h.get? a=some { cls:=.type "list",data:=.seq vs.toArray }/\IntsAre vs ns/\ns.length<=n:=by
 have hsh:WShape.hasAll [] args [.list .int]=true:=(pre_splitW hpre).1
 have hc:l.pre.holds [] { args:=args }=true:=(pre_splitW hpre).2
 obtain ⟨d,r,rfl,h1,h2⟩:=hasAllW_cons hsh
 obtain rfl:=hasAllW_nil h2
 obtain ⟨xs,rfl,h3⟩:=hasW_list h1
 obtain ⟨ns,rfl⟩:=items_int h3
 have hlen:ns.length<=n:=by
  unfold OpenLaw.pre at hc
  have h4:(WTm.not (.lt (.lit (.int (n:Int))) (.len (.arg 0)))).holds [] { args:=[.list (ns.map .int)] }=true:=by
   have h4:=(holds_andW hc).1
   rw [hn] at h4
   exact h4
  have h5:=condW_of h4 (w_not (w_lt w_lit (w_len_list (w_arg rfl))))
  rw [List.length_map] at h5
  refine Nat.le_of_not_lt fun q=>?_
  have q':(n:Int)<((ns.length:Nat):Int):=by omega
  first
   | (rw [decide_eq_true q'] at h5;exact absurd h5 (by decide))
   | (simp at h5;omega)
 cases hwl with
 | cons w1 w2=>
  cases w2
  cases w1 with
  | list ho hall=>exact ⟨_,_,ns,rfl,rfl,ho,kr ns _ hall,hlen⟩
theorem yk (l:OpenLaw) (args:List WData):l.row.toRowW.claim.post args (.bool true) args=true:=
 postW_of (r:=l.row.toRowW) (X:=(true==true))
  (show WShape.has [] (.bool true) .bool=true by first|rfl|decide|simp [WShape.has,WShape.arms,WShape.armsAll])
  (show (WTm.eq .res (.lit (.bool true))).value [] { args:=args,res:=some (.bool true),after:=args }=some (.bool (true==true)) from w_eq_bool (w_res rfl) w_lit) rfl
theorem attach_call {l:OpenLaw} {n:Nat} {q:Program} {XP:(Str->Option Value)->Heap->Prop} {YP:World->Heap->Prop} {d:DefRec}
 (hn:l.most=some n) (hdf:d.params.defaults=[])
 (call:∀ (w:World) (s₀ s₁:Shared) (mg mb:Str->Option Value) (fa:Addr) (o:Obj) (pm cd doc:Value) (a:Addr) (vs:List Value) (ns:List Int),
 Ground q loose [] XP w s₀ mg mb s₁.heap->YP w s₁.heap->
 s₁.heap.get? fa=some o->o.data=.func (docDef d.name d.params d.body d.scope pm cd doc)->s₁.heap.CodeRec cd d.name->mg d.name=some (.ref fa)->
 s₁.heap.get? a=some { cls:=.type "list",data:=.seq vs.toArray }->IntsAre vs ns->ns.length<=n->s₁.gens = #[]->
 codeAny (model l.prog w) callerA (.call (.ref fa) ⟨[.ref a],[]⟩) (fun r s'=>r=.ok (.ret (.bool true))/\OldK s₁.heap s'.heap/\s'.os=s₁.os/\AllBare s'.gens) s₁) :
  WalkO q loose XP YP l.row.toRowW d [] (fun f vs=>PySem.call f vs):=by
 intro w s₀ s₁ mg mb G Y fa o pm cd doc dV kV ho hd hcd hD hmg hg args vals as hpre hlay hrd hwl hlo
 obtain rfl:dV=.none:=Dflts.none hD hdf
 obtain rfl:kV=.none:=Dflts.noKw hD
 obtain ⟨a,vs,ns,rfl,rfl,hobj,hints,hlen⟩:=xt hn hpre hwl
 refine enter_call (codeAny_mono (call w s₀ s₁ mg mb fa o pm cd doc a vs ns G Y ho (fd_plain hd) hcd hmg hobj hints hlen hg) fun r s' hq=>?_)
 obtain ⟨rfl,h2,h3,h4⟩:=hq
 exact ⟨.inl ⟨.bool true,.bool true,[],rfl,fun _=>rfl,.bool true,yk l _,fun _=>⟨List.Pairwise.nil,fun _ hm=>(nomatch hm)⟩⟩,h2,h3,h4⟩
section
variable {prog:Program} {w:World} {A:Around} {K:Frag}
noncomputable def Kc (h:Heap) (L d:Addr):List (Addr×Obj):=(List.range h.objs.size).filterMap fun a=>if a=L\/a=d then none else (h.get? a).map fun o=>(a,o)
end
end Att
namespace L2
open PySem PySem.Spec PyProof.Rows
theorem pU:∀ {vs:List Value} {ns:List Int},IntsAre vs ns->Vals (ns.map V.int) vs
 | _,_,.nil=>.nil
 | _,_,.cons n t h=>.cons ⟨t,rfl⟩ (pU h)
noncomputable def JT (H:Hp):Prop:=∀ b,H b=none\/∃ o xs,H b=some (.frz o (.lst xs))
theorem zM {w:World} {K:W.Frag} {mg mb:Str->Option Value} {fa:Addr} {sp:Sp} {s₁:Shared} {vs:List Value} {ns:List Int}
 (KX:K.In s₁.heap) (hns:s₁.heap.Ns mainGlobals mg) (hb:s₁.heap.Ns builtinsNs mb) (hbb:∀ x:Str,x ≠ "__name__"->mb x=bootBuiltins x) (hlim:s₁.heap.NoLimit) (hg:s₁.gens = #[])
 (ha:s₁.heap.get? a=some { cls:=.type "list",data:=.seq vs.toArray }) (hi:IntsAre vs ns) (hl:ns.length<=sizeLine) (hr:Room k callerA)
 (F:∀ base:Heap,K.In base->base.Ns mainGlobals mg->FnOk P w K mg base CX k fa fd [x] sp) (hbind:∀ (s:Shared) (u:Value),BindsTo s fd ⟨[u],[]⟩ [(x,u)])
 (hsp:∀ H:Hp,JT H->SqL K H a (ns.map V.int)->sp [.ref a] H (fun v _=>v=.bl true) fun _ _ _=>False)
 (hCX:∀ H e s',CX [] H s₁ (fun _ _ _=>False) e s'->False) :
  codeAny (model P w) callerA (.call (.ref fa) ⟨[.ref a],[]⟩) (fun r s'=>r=.ok (.ret (.bool true))/\OldK s₁.heap s'.heap/\s'.os=s₁.os/\AllBare s'.gens) s₁:=by
 have rv:=pU hi
 have lenV:=hi.length
 have core:∀ H:Hp,JT H->SqL K H a (ns.map V.int)->HOk P w H s₁.heap->(∀ b,H b≠none->b=a)->(H a≠none->K.lookup a=none)->
   codeAny (model P w) callerA (.call (.ref fa) ⟨[.ref a],[]⟩) (fun r s'=>r=.ok (.ret (.bool true))/\OldK s₁.heap s'.heap/\s'.os=s₁.os/\AllBare s'.gens) s₁:=by
  intro H hO hS hok hA hK
  have base_of:∀ {b:Addr} {o:Obj},s₁.heap.get? b=some o->H b=none->(zh s₁.heap H).get? b=some o:=fun e n=>Bs e n
  have noA:∀ {b:Addr} {o:Obj} {es:Array DictEntry} {ep:Nat},s₁.heap.get? b=some o->o.data=.dict es ep->H b=none:=fun {b o es ep} e d=>by
   cases q:H b with
   | none=>rfl
   | some u=>
    have e':b=a:=hA b (by rw [q];simp)
    subst e'
    rw [ha] at e;cases e
    have d':Data.seq vs.toArray _=Data.dict es ep:=d
    cases d'
  have nsK:∀ {b:Addr} {m:Str->Option Value},s₁.heap.Ns b m->(zh s₁.heap H).Ns b m:=fun {b m} ⟨o,es,ep,e,d,r⟩=>⟨o,es,ep,base_of e (noA e d),d,r⟩
  have hKb:K.In (zh s₁.heap H):=fun b o e=>base_of (KX b o e) (by
   cases q:H b with
   | none=>rfl
   | some u=>
    have e':b=a:=hA b (by rw [q];simp)
    subst e'
    rw [hK (by rw [q];simp)] at e;cases e)
  have hM:Mod K mg (zh s₁.heap H):=⟨hKb,nsK hns,⟨mb,nsK hb,hbb⟩,let ⟨mc,h1,h2⟩:=hlim;⟨mc,nsK h1,h2⟩⟩
  have e0:Env0 P w K mg (zh s₁.heap H) callerA [] s₁ H:=⟨rfl,hM,fun b o e=>CH e,Nat.le_of_eq (yq _ _),trivial,fun b hb=>absurd (show b∈([]:List Addr) from hb) (by simp),hok,.of_eq hg,xJ _ _⟩
  refine codeAny_mono ((F _ hKb (nsK hns)).run callerA [] s₁ H ⟨[.ref a],[]⟩ [.ref a] [.ref a] _ _ hr e0 (hbind s₁ (.ref a)) (.cons rfl .nil) (hsp H hO hS)) fun r s' h=>?_
  cases r with
  | error e=>exact (hCX H e s' h).elim
  | ok fl=>
   cases fl with
   | next=>exact False.elim h
   | brk=>exact False.elim h
   | cont=>exact False.elim h
   | ret u=>
    obtain ⟨v,H',os,bare,un,hok',r',q⟩:=h
    have q':v=.bl true:=q
    subst q'
    obtain rfl:u=Value.bool true:=r'
    refine ⟨rfl,OldK.of_keep fun b o e=>?_,os,bare⟩
    cases q:H b with
    | none=>exact un.keep b o e q (by intro z;exact absurd (show b∈([]:List Addr) from z) (by simp)) (by simp)
    | some u=>
     rcases hO b with z|⟨ob,xs,z⟩
     ·rw [q] at z;cases z
     ·have z2:=un.frzs b ob _ z
      obtain ⟨e1,_⟩:=hok b _ z
      obtain ⟨e2,_⟩:=hok' b _ z2
      rw [e] at e1;cases e1
      exact e2
 cases hk:K.lookup a with
 | some o=>
  have e:=KX a o hk
  rw [ha] at e
  cases e
  refine core (fun _=>none) (fun _=>.inl rfl) (.inr ⟨_,vs.toArray,_,hk,rfl,rfl,rfl,by rw [List.size_toArray,lenV];exact hl,by simpa using rv⟩) (fun b u z=>by have z':(none:Option HO)=some u:=z;cases z') (fun b z=>absurd rfl z) fun z=>absurd rfl z
 | none=>
  refine core (fun b=>if b=a then some (.frz { cls:=.type "list",data:=.seq vs.toArray } (.lst (ns.map V.int))) else none) (fun b=>?_) (.inl (.inr ⟨{ cls:=.type "list",data:=.seq vs.toArray },if_pos rfl⟩)) (fun b u z=>?_) (fun b z=>?_) fun _=>hk
  ·by_cases hb:b=a
   ·exact .inr ⟨_,_,if_pos hb⟩
   ·exact .inl (if_neg hb)
  ·by_cases hb:b=a
   ·have z':=(if_pos hb).symm.trans z
    cases z'
    subst hb
    exact ⟨ha,by rw [List.length_map];exact hl,vs,_,rv,ha⟩
   ·have z':=(if_neg hb).symm.trans z
    cases z'
  ·by_cases hb:b=a
   ·exact hb
   ·exact absurd (if_neg hb) z
noncomputable abbrev KOf {K:W.Frag} {h:Heap} (_:K.In h):W.Frag:=K
theorem wK {l:W.OpenLaw} {n:Nat} {q:Program} {XP:(Str->Option Value)->Heap->Prop} {YP:World->Heap->Prop} {d:DefRec} {K:Params->W.Frag} {CX:World->CXT} {sp:World->Sp}
 (hn:l.most=some n) (hn2:n<=sizeLine) (hdf:d.params.defaults=[]) (hr:Room k callerA)
 (hY:∀ (w:World) (h:Heap),YP w h->(K w.params).In h)
 (F:∀ (w:World) (mg:Str->Option Value) (fa:Addr) (h:Heap),(K w.params).In h->h.Ns mainGlobals mg->mg d.name=some (.ref fa)->
 ∃ fd:FuncData,(∀ (s:Shared) (u:Value),BindsTo s fd ⟨[u],[]⟩ [(x,u)])/\
 ∀ base:Heap,(K w.params).In base->base.Ns mainGlobals mg->FnOk l.prog w (K w.params) mg base (CX w) k fa fd [x] (sp w))
 (hsp:∀ (w:World) (H:Hp) (a:Addr) (ns:List Int),ns.length<=n->JT H->SqL (K w.params) H a (ns.map V.int)->sp w [.ref a] H (fun v _=>v=.bl true) fun _ _ _=>False)
 (hCX:∀ (w:World) (H:Hp) (s:Shared) (e:Value) (s':Shared),CX w [] H s (fun _ _ _=>False) e s'->False) :
  W.WalkO q loose XP YP l.row.toRowW d [] (fun f vs=>PySem.call f vs):=by
 refine Att.attach_call hn hdf fun w s₀ s₁ mg mb fa o pm cd doc a vs ns G Y ho hd hcd hmg hobj hints hlen hg=>?_
 have KX:=hY w _ Y
 obtain ⟨fd,hb,hF⟩:=F w mg fa _ KX G.T.g hmg
 exact zM KX G.T.g G.T.b G.T.builtins G.T.nolimit hg hobj hints (Nat.le_trans hlen hn2) hr hF hb (fun H hO hS=>hsp w H a ns hlen hO hS) fun H e s'=>hCX w H s₁ e s'
end L2
/- THE LAST THEOREM (shape;LID,My.* are yours):
  My.Adr: a structure of the addresses that your layer names (classes,functions);My.Txt K t: a structure (Prop) of the equations over K;
  My.txt_mk:{K} {implicit addresses ..} (e1:nsIn K mainGlobals "law"=some (some (.ref f))) (e2:K.lookup f=some ⟨oc,od,.func (fnOf "law" "law" params body scope dV kV doc pm an cdv ct),sl⟩) (e3:codeIn K cdv "law"=true) .. : ∃ t,My.Txt K t
set_option maxRecDepth 100000 in
set_option maxHeartbeats 0 in
theorem PySem.Challenge.cw_LID_holds : PySem.Challenge.rw_LID.Holds := by
 w_on;o_law;k_head;(case hw=>w_witness2)
 k_fill
 refine L2.wK (l:=PySem.Challenge.rw_LID) (n:=63) (k:=40) (x:="script") (CX:=fun w=>..) (sp:=fun _=>My.sp_law) rfl (by decide) rfl ⟨rfl,by decide,by decide⟩ (fun w h Y=>PySem.W.kIn_of Y) ?F ?S ?C
 case F=>
  intro w mg fa h KX G hmg
  have T:∃ t,My.Txt (L2.KOf KX) t:=by
   dsimp only [L2.KOf]
   refine' My.txt_mk ?e1 ?e2 ?e3 ..
   (case e1=>PySem.W.k_is)
   (case e2=>PySem.W.k_is)
   ..
  obtain ⟨t,T⟩:=T
  have e0:=hmg.symm.trans (PySem.W.mg_of KX G T.law)
  cases e0
  exact ⟨_,fun s u=>.of_eq rfl,fun base kb nb=>My.law_fn T kb nb⟩
 case S=>exact fun w H a ns hl hO hS=>..
 case C=>exact ..
(the tactic k_is has no namespace: write k_is) -/
namespace L2
open PySem PySem.Spec PyProof.Rows
noncomputable def br (s:Stmt) (j:Nat):Stmt:=match s with
 | .ClassDef _ _ _ body _ _ _ _ _ _ _=>body.getD j (.Pass ⟨0,0,0,0⟩)
 | _=>.Pass ⟨0,0,0,0⟩
noncomputable def dN (s:Stmt):Arguments:=match s with
 | .FunctionDef _ a _ _ _ _ _ _ _ _=>a
 | _=>{ posonlyargs:=[],args:=[],vararg:=none,kwonlyargs:=[],kw_defaults:=[],kwarg:=none,defaults:=[] }
noncomputable def aZ (s:Stmt):List Stmt:=match s with
 | .FunctionDef _ _ b _ _ _ _ _ _ _=>b
 | _=>[]
noncomputable def ag (s:Stmt):Scope:=match s with
 | .FunctionDef _ _ _ _ _ _ sc _ _ _=>sc
 | _=>{ kind:=.function,names:=[],isGenerator:=false,isCoroutine:=false }
structure Fun (K:PySem.W.Frag) (x qual:Str) (st:Stmt) (f:Addr) (fd:FuncData):Prop where
 ex:∃ (oc:Value) (od:Option Addr) (kV doc pm:Value) (an:Option Addr) (cdv ct:Value) (osl:Array (Option Value)),
  fd=PySem.W.fnOf x qual (dN st) (aZ st) (ag st) .none kV doc pm an cdv ct/\K.lookup f=some ⟨oc,od,.func fd,osl⟩/\PySem.W.codeIn K cdv qual=true
 kp:PySem.W.keepIn K (.ref f)=true
section
variable {w:World} {K:PySem.W.Frag} {mg:Str->Option Value} {base:Heap}
theorem Fun.binds (F:Fun K x qual st f fd)
 (h:∀ (kV doc pm:Value) (an:Option Addr) (cdv ct:Value) (us:List Value),us.length=ps.length->bindArgs (PySem.W.fnOf x qual (dN st) (aZ st) (ag st) .none kV doc pm an cdv ct) ⟨us,[]⟩=pure (ps.zip us)):Binds K fd ps []:=by
 obtain ⟨oc,od,kV,doc,pm,an,cdv,ct,osl,rfl,lk,hcd⟩:=F.ex
 exact .all (h kV doc pm an cdv ct)
theorem yY {kV doc pm ct:Value} (l:K.lookup f=some ⟨oc,od,.func (PySem.W.fnOf x qual (dN st) (aZ st) (ag st) .none kV doc pm an cdv ct),osl⟩)
 (c:PySem.W.codeIn K cdv qual=true) (k:PySem.W.keepIn K (.ref f)=true):Fun K x qual st f (PySem.W.fnOf x qual (dN st) (aZ st) (ag st) .none kV doc pm an cdv ct):=⟨⟨oc,od,kV,doc,pm,an,cdv,ct,osl,rfl,l,c⟩,k⟩
end
noncomputable def Same (H H':Hp):Prop:=∀ b o,H b=some o->H' b=some o
theorem Same.refl (H:Hp):Same H H:=fun _ _ h=>h
theorem Same.trans {H1 H2:Hp} (a:Same H H1) (b:Same H1 H2):Same H H2:=fun c o h=>b c o (a c o h)
theorem Same.free (e:Same H H') {l:Addr} (h:H' l=Option.none):H l=Option.none:=by
 cases q:H l with
 | none=>rfl
 | some o=>
  rw [e l o q] at h
  cases h
theorem Same.seq {K:PySem.W.Frag} (e:Same H H') (h:SqL K H a xs):SqL K H' a xs:=by
 rcases h with (h|⟨o,h⟩)|h
 ·exact .inl (.inl (e _ _ h))
 ·exact .inl (.inr ⟨o,e _ _ h⟩)
 ·exact .inr h
end L2
namespace L2
open PySem PySem.Spec PyProof.Rows
open PySem.MeetsSeq PySem.MeetsSeq2 PySem.MeetsSeq3
section
variable {prog:Program} {w:World} {A:Around}
theorem C3 {b:Bool} {Q:Int->Shared->Prop} (h:Q (if b then 1 else 0) { s with toks:=s.toks+1 }):wpAny (model prog w) A (pyHash (.bool b)) Q E s:=by
 have t:s.TypeIs (.bool b) "bool":=rfl
 show wpAny _ _ (pyHashByItsType (.bool b)) Q E s
 have c:cRoomFor "hash" [.bool b]=pure ():=rfl
 unfold pyHashByItsType
 rw [c]
 refine wpAny_bind (wpAny_pure ?_)
 refine wpAny_bind (wpAny_specialOf t F.slot_bool_hash.lookup ?_)
 simp only [beq_builtin_none,Bool.false_eq_true,if_false]
 refine wpAny_bind (wpAny_specialOf t F.slot_bool_hash.lookup ?_)
 simp only [Option.isNone_some,Bool.false_eq_true,if_false]
 refine wpAny_bind (wpAny_callSpecialIfBoundUnlessNone?_slot t F.slot_bool_hash (wpAny_call_entry F.slot_bool_hash t F.entry_int_hash ?_ (F.args_int_hash_1 _)))
 unfold Builtin.«int.__hash__»
 cases b
 ·wp_walk
  exact ⟨.int 0 _,rfl,wpAny_pure h⟩
 ·wp_walk
  exact ⟨.int 1 _,rfl,wpAny_pure h⟩
noncomputable def qw (prog:Program) (w:World):PySem.KeyKind prog w Bool where
 is:=fun k v=>match v with
  | .bool b=>b==k
  | _=>false
 hash:=fun k=>if k then 1 else 0
 inj:=fun v a b ha hb=>by
  cases v <;> simp_all
 byValue:=fun k v h=>by
  cases v <;> simp_all [carriedByValue]
 pyHash:=fun {A E s k v Q} hv h=>by
  cases v <;> simp_all
  exact C3 h
 eqBool:=fun {A E s a b u v Q} hu hv h=>by
  cases u <;> simp_all
  cases v <;> simp_all
  have e:decide (a=b)=(a==b):=by cases a <;> cases b <;> rfl
  rw [e] at h
  exact PySem.SeqAt.EqAt.bool_bool a b prog w E Q h
 «strs»:=fun k x t v h=>by simp at h
end
noncomputable abbrev DX:=List (List Bool×Addr×V)
noncomputable abbrev DU:=List (List Bool×Addr×Value)
noncomputable def pc (bs:List Bool):Int:=reduceHash (Builtin.Tuple.tupleHashOf (bs.map fun k=>if k then 1 else 0))
noncomputable abbrev DRel:DX->DU->Prop:=Paired fun p q=>p.1=q.1/\p.2.1=q.2.1/\RelV p.2.2 q.2.2
noncomputable def D6 (a:Addr) (o:Obj) (xs:DX):Heap->Prop:=fun h=>h.get? a=some o/\xs.length<=sizeLine/\(a==sysModules)=false/\o.ExactDict/\∃ us:DU,DRel xs us/\
 ∃ es ep,o.data=.dict es ep/\es.toList=us.map (fun x=>⟨pc x.1,.ref x.2.1,x.2.2⟩)/\(us.map (·.1)).Nodup
noncomputable def DctO (a:Addr) (o:Obj) (xs:DX):HO:=.ext (D6 a o xs)
theorem DctO.ok {w:World} {o:Obj} {xs:DX} (d:D6 a o xs h):ObjOk P w H h a (DctO a o xs):=
 ⟨d,⟨o,d.1⟩,fun _ _ p st=>⟨st o p.1,p.2⟩⟩
noncomputable def gh (K:PySem.W.Frag) (H:Hp) (xs:DX):Prop:=∀ x∈xs,SqT K H x.2.1 (x.1.map V.bl)
noncomputable def lY (xs:DX) (k:List Bool):Option V:=(xs.find? fun x=>decide (x.1=k)).map (·.2.2)
theorem uk {P:Program} {w:World}:∀ {bs:List Bool} {us:List Value},Vals (bs.map V.bl) us->ItemsAre (qw P w) bs us
 | [],_,r=>by rw [List.map_nil] at r;cases r;exact .nil
 | b::bs,_,r=>by
  rw [List.map_cons] at r
  cases r with
  | cons h t=>
   obtain rfl:=(show _=Value.bool b from h)
   exact .cons (by simp [qw]) (uk t)
theorem DRel.find {k:List Bool}:∀ {xs:DX} {us:DU},DRel xs us->RelO (lY xs k) ((atKey us k).map (·.2))
 | _,_,.nil=>trivial
 | x::xs,u::us,.cons ⟨h1,h2,h3⟩ t=>by
  have ih:=DRel.find (k:=k) t
  unfold lY atKey at ih ⊢
  by_cases e:x.1=k
  ·have e':u.1=k:=h1 ▸ e
   simp only [List.find?_cons,e,e',decide_true,Option.map_some]
   exact h3
  ·have e' : ¬ u.1=k:=fun z=>e (h1.trans z)
   simp only [List.find?_cons,e,e',decide_false]
   exact ih
theorem DRel.isSome {k:List Bool} {xs:DX} {us:DU} (r:DRel xs us):(lY xs k).isSome=(atKey us k).isSome:=by
 have h:=r.find (k:=k)
 revert h
 cases lY xs k <;> cases atKey us k <;> intro h <;> first|rfl|exact h.elim
section
variable {o:Obj} {xs:DX} {k:List Bool} {A:Around}
theorem mw (I:Inv X pins σ H s) (h:SqT X.K H q (k.map V.bl)):(tupleKind (qw X.prog X.w)).is s.heap k q:=by
 obtain ⟨its,rv,⟨o,h1,h2,n,h3⟩,_⟩:=I.tuple h
 exact ⟨o,its.toArray,n,h1,h2,h3,by simpa using uk rv⟩
theorem mx (I:Inv X pins σ H s) (e:H a=some (DctO a o xs)) (kk:gh X.K H xs):xs.length<=sizeLine/\(a==sysModules)=false/\∃ us:DU,DRel xs us/\s.heap.DictOfH (tupleKind (qw X.prog X.w)) a us:=by
 obtain ⟨⟨h1,z1,z2,h2,us,r,es,ep,h3,h4,h5⟩,_⟩:=(show ObjOk X.prog X.w H s.heap a (DctO a o xs) from I.hok a _ e)
 refine ⟨z1,z2,us,r,o,es,ep,h1,h2,h3,h4,fun u hu=>?_,h5⟩
 have all:∀ {l:DX} {m:DU},DRel l m->(∀ x∈l,SqT X.K H x.2.1 (x.1.map V.bl))->∀ u∈m,(tupleKind (qw X.prog X.w)).is s.heap u.1 u.2.1:=by
  intro l m q
  induction q with
  | nil=>intro _ u hu;exact nomatch hu
  | @cons x y ps qs hq t ih=>
   intro hl u hu
   rcases List.mem_cons.mp hu with z|hu
   ·subst z
    have:=mw I (hl x (List.mem_cons_self ..))
    rw [hq.1,hq.2.1] at this
    exact this
   ·exact ih (fun x hx=>hl x (List.mem_cons_of_mem _ hx)) u hu
 exact all r kk u hu
theorem Cn {Q:Value->Shared->Prop} (hu:A.units+1<cLine) (I:Inv X pins σ H s) (e:H a=some (DctO a o xs)) (kk:gh X.K H xs) (hk:SqT X.K H q (k.map V.bl)) (hv:lY xs k=some v) (h:∀ w' s',Inv X pins σ H s'->RelV v w'->Q w' s') :
  wpAny (model X.prog X.w) A (getItem (.ref a) (.ref q)) Q E s:=by
 obtain ⟨z,hd,us,rel,dd⟩:=mx I e kk
 obtain ⟨w',hw,rw'⟩:=RelO.some_of (v:=v) (o:=(atKey us k).map (·.2)) (by rw [<- hv];exact rel.find)
 obtain ⟨p,hp,hp2⟩:=Option.map_eq_some_iff.mp hw
 refine wpAny_getItem_heap (tupleKind_room_in1 hu) (mw I hk) dd hp ?_
 rw [hp2]
 exact h w' _ (I.tok _) rw'
theorem Hl {Q:Value->Shared->Prop} (hu:A.units+1<cLine) (I:Inv X pins σ H s) (e:H a=some (DctO a o xs)) (kk:gh X.K H xs) (hk:SqT X.K H q (k.map V.bl)) (h:∀ s',Inv X pins σ H s'->Q (.bool (lY xs k).isSome) s') :
  wpAny (model X.prog X.w) A (compareOp .In (.ref q) (.ref a)) Q E s:=by
 obtain ⟨z,hd,us,rel,dd⟩:=mx I e kk
 refine wpAny_in_heap (tupleKind_room_in1 hu) (mw I hk) hd dd ?_
 rw [<- rel.isSome]
 exact h _ (I.tok _)
theorem yx {Q:Value->Shared->Prop} (hu:A.units+1<cLine) (I:Inv X pins σ H s) (e:H a=some (DctO a o xs)) (kk:gh X.K H xs) (hk:SqT X.K H q (k.map V.bl)) (h:∀ s',Inv X pins σ H s'->Q (.bool (!(lY xs k).isSome)) s') :
  wpAny (model X.prog X.w) A (compareOp .NotIn (.ref q) (.ref a)) Q E s:=by
 obtain ⟨z,hd,us,rel,dd⟩:=mx I e kk
 refine wpAny_notIn_heap (tupleKind_room_in1 hu) (mw I hk) hd dd ?_
 rw [<- rel.isSome]
 exact h _ (I.tok _)
noncomputable def zr (xs:DX) (k:List Bool) (q:Addr) (v:V):DX:=if (lY xs k).isSome then xs.map (fun x=>if x.1=k then (x.1,x.2.1,v) else x) else xs++[(k,q,v)]
theorem DRel.snoc:∀ {xs:DX} {us:DU} {x:List Bool×Addr×V} {u:List Bool×Addr×Value},DRel xs us->(x.1=u.1/\x.2.1=u.2.1/\RelV x.2.2 u.2.2)->DRel (xs++[x]) (us++[u])
 | _,_,_,_,.nil,h=>.cons h .nil
 | _,_,_,_,.cons a t,h=>.cons a (DRel.snoc t h)
theorem DRel.put {xs:DX} {us:DU} (r:DRel xs us) (q:Addr) (rv:RelV v u):DRel (zr xs k q v) (storedH us k q u):=by
 have e:(lY xs k).isSome=(atKey us k).isSome:=r.isSome
 unfold zr storedH
 rw [e]
 by_cases z:(atKey us k).isSome=true
 ·rw [if_pos z,if_pos z]
  clear e z
  induction r with
  | nil=>exact .nil
  | @cons x y ps qs h t ih=>
   obtain ⟨h1,h2,h3⟩:=h
   rw [List.map_cons,List.map_cons]
   refine .cons ?_ ih
   unfold putAt
   by_cases z:x.1=k
   ·rw [if_pos z,if_pos (h1 ▸ z)];exact ⟨h1,h2,rv⟩
   ·rw [if_neg z,if_neg (fun y=>z (h1.trans y))];exact ⟨h1,h2,h3⟩
 ·rw [if_neg z,if_neg z];exact DRel.snoc r ⟨rfl,rfl,rv⟩
theorem zw (xs:DX) (k:List Bool) (q:Addr) (v:V):(zr xs k q v).length<=xs.length+1:=by
 unfold zr
 split <;> simp
theorem CQ {Q:Unit->Shared->Prop} (hu:A.units+1<cLine) (I:Inv X pins σ H s) (e:H a=some (DctO a o xs)) (kk:gh X.K H xs) (hk:SqT X.K H q (k.map V.bl)) (hl:xs.length<sizeLine) (rv:RelV v u) (h:∀ o' s',Inv X pins σ (upd H a (DctO a o' (zr xs k q v))) s'->Q () s') :
  wpAny (model X.prog X.w) A (setItem (.ref a) (.ref q) u) Q E s:=by
 obtain ⟨z,hd,us,rel,dd⟩:=mx I e kk
 have hz:us.length<=sizeLine:=by rw [<- Paired.length rel];exact z
 refine wpAny_setItem_heap (hsz:=hz) (tupleKind_room_in1 hu) (mw I hk) dd fun h' dd' hs=>?_
 obtain ⟨o',es,ep,h1,h2,h3,h4,_,h5⟩:=dd'
 refine h o' _ (I.write (x:=a) (e:=a) (by rw [e];trivial) (.inl rfl) (fun b y hb z=>(hs.2 b hb).trans z) ⟨o',h1⟩ (DctO.ok ⟨h1,?_,hd,h2,_,rel.put q rv,es,ep,h3,h4,h5⟩))
 have:=zw xs k q v
 omega
end
end L2
namespace L2
open PySem PySem.Spec PyProof.Rows
theorem Inv.big0 (I:Inv X pins σ H s):(s.heap.objs.size==sysModules)=false:=by
 have h:mainGlobals<s.heap.objs.size:=(I.mod.glob.keeps I.bk).lt
 exact beq_eq_false_iff_ne.mpr fun e=>by
  rw [e] at h
  exact absurd h (by decide)
section
noncomputable def IC:TE:=fun _ H Q=>∀ p o,H p=none->Q (.ref p) (upd H p (DctO p o []))
theorem Et:PE X (.Dict [] [] pos) IC:=fun pins s σ H Q I h=>
 wpAny_Dict_empty ⟨.ref s.heap.objs.size,_,I.laid (t':=s.toks) (fun _ _ q=>Heap.get?_push_of_some _ q) (Nat.le_refl _) (DctO.ok ⟨Heap.get?_push_size _ rfl,Nat.zero_le _,I.big0,⟨rfl,rfl,rfl⟩,[],.nil,#[],0,rfl,rfl,List.nodup_nil⟩),rfl,h _ _ (I.hok.fresh (Nat.le_refl _))⟩
noncomputable def IM (tk tv:TE) (K:PySem.W.Frag):TE:=fun σ H Q=>∀ p o,H p=none->tk σ (upd H p (DctO p o [])) fun x H1=>tv σ H1 fun y H2=>H2 p=some (DctO p o [])/\∃ q bs,x=.ref q/\SqT K H2 q (bs.map V.bl)/\∀ o',Q (.ref p) (upd H2 p (DctO p o' [(bs,q,y)]))
theorem Ez {k v:Expr} {tk tv:TE} (hu:X.A.units+1<cLine) (hk:PE X k tk) (hv:PE X v tv):PE X (.Dict [some k] [v] pos) (IM tk tv X.K):=fun pins s σ H Q I h=>by
 have hn:=I.hok.fresh (Nat.le_refl s.heap.objs.size)
 have I1:Inv X pins σ (upd H s.heap.objs.size (DctO s.heap.objs.size { cls:=.type "dict",data:=.dict #[] } [])) { s with heap:=s.heap.push { cls:=.type "dict",data:=.dict #[] } }:=I.laid (t':=s.toks) (fun _ _ q=>Heap.get?_push_of_some _ q) (Nat.le_refl _) (DctO.ok ⟨Heap.get?_push_size _ rfl,Nat.zero_le _,I.big0,⟨rfl,rfl,rfl⟩,[],.nil,#[],0,rfl,rfl,List.nodup_nil⟩)
 refine wpAny_Dict_any rfl rfl (by simp) (by show 1<=15;decide) (pairTrees_cons_walk (thn (hk pins _ σ _ _ I1 (h _ _ hn)) fun u s1 ⟨x,H1,I2,rx,q1⟩=>thn (hv pins s1 σ H1 _ I2 q1) fun w s2 ⟨y,H2,I3,ry,hp,q,bs,ex,hq,q2⟩=>pairTrees_nil_walk ?_))
 subst ex
 cases rx
 obtain ⟨z,hd,us,rel,dd⟩:=mx I3 hp (fun _ hx=>nomatch hx)
 cases rel
 unfold storeAll
 rw [List.forIn_cons]
 refine wpAny_bind (wpAny_bind (wpAny_dictSet_heap (hsz:=Nat.zero_le _) (show X.A.units<cLine by omega) (mw I3 hq) dd fun h' dd' hs=>?_))
 refine wpAny_pure ?_
 show wpAny _ _ (forIn [] PUnit.unit _) _ _ _
 rw [List.forIn_nil]
 obtain ⟨o,es,ep,h1,h2,h3,h4,_,h5⟩:=dd'
 refine wpAny_pure ⟨.ref _,_,?_,rfl,q2 o⟩
 exact I3.write (x:=s.heap.objs.size) (e:=s.heap.objs.size) (by rw [hp];trivial) (.inl rfl) (fun b y hb z=>(hs.2 b hb).trans z) ⟨o,h1⟩ (DctO.ok ⟨h1,by show 1<=sizeLine;decide,hd,h2,_,.cons ⟨rfl,rfl,ry⟩ .nil,es,ep,h3,h4,h5⟩)
end
theorem Aw:∀ a b c d:Bool,pc [a,b]=pc [c,d]->[a,b]=[c,d]:=by decide +kernel
theorem BC {α:Type} {f:α->Int} {c:Int}:∀ {l:List α},(l.map f).Nodup->(l.filter fun x=>f x==c).length<=1
 | [],_=>by simp
 | a::l,h=>by
  rw [List.map_cons,List.nodup_cons] at h
  by_cases e:f a=c
  ·have z:(l.filter fun x=>f x==c)=[]:=List.filter_eq_nil_iff.2 fun x hx q=>h.1 (List.mem_map.2 ⟨x,hx,by rw [e];exact eq_of_beq q⟩)
   rw [List.filter_cons_of_pos (by simp [e]),z];simp
  ·rw [List.filter_cons_of_neg (by simp [e])];exact BC h.2
noncomputable def HN (xs:DX):Prop:=∀ x∈xs,∃ a b,x.1=[a,b]
theorem pT:∀ {us:DU},(∀ u∈us,∃ a b,u.1=[a,b])->(us.map (·.1)).Nodup->(us.map fun u=>pc u.1).Nodup
 | [],_,_=>List.nodup_nil
 | u::us,h2,hn=>by
  rw [List.map_cons,List.nodup_cons] at hn ⊢
  refine ⟨fun hm=>hn.1 ?_,pT (fun x hx=>h2 x (List.mem_cons_of_mem _ hx)) hn.2⟩
  obtain ⟨y,hy,e⟩:=List.mem_map.1 hm
  obtain ⟨a,b,e1⟩:=h2 u (List.mem_cons_self ..)
  obtain ⟨c,d,e2⟩:=h2 y (List.mem_cons_of_mem _ hy)
  rw [e1,e2] at e
  exact List.mem_map.2 ⟨y,hy,by rw [e1,e2];exact Aw _ _ _ _ e⟩
theorem DRel.twos:∀ {xs:DX} {us:DU},DRel xs us->HN xs->∀ u∈us,∃ a b,u.1=[a,b]
 | _,_,.nil,_,u,hu=>nomatch hu
 | x::xs,y::us,.cons h t,h2,u,hu=>by
  rcases List.mem_cons.1 hu with rfl|hu
  ·obtain ⟨a,b,e⟩:=h2 x (List.mem_cons_self ..)
   exact ⟨a,b,h.1 ▸ e⟩
  ·exact DRel.twos t (fun z hz=>h2 z (List.mem_cons_of_mem _ hz)) u hu
section
variable {prog:Program} {w:World} {A:Around}
theorem vV {d o:Addr} {od oo:Obj} {es:Array DictEntry} {e0 ep:Nat} {id:String} {Q:Unit->Shared->Prop} (hne:(d==o)=false) (hos:(o==sysModules)=false) (hd:s.heap.get? d=some od) (hdd:od.data=.dict #[] e0) (ho:s.heap.get? o=some oo) (hdo:oo.data=.dict es ep)
 (hz:es.size<=sizeLine) (h0:0<es.size) (hr:∀ e∈es.toList,∃ q,e.key=.ref q/\s.TypeIs (.ref q) "tuple") (hf:∀ e∈es.toList,(es.filter (·.hash==e.hash)).size<=1)
 (h:Q () { s with heap:=s.heap.update d (Obj.mapDictKeys fun _=>es) }):wpAny (model prog w) A (Builtin.Dict.mergeDict id d o) Q E s:=by
 have few:(decide (es.size<=8) && es.all fun e=>(keyPart e.key).isSome)=false:=by
  have hx:es[0]∈es.toList:=by simp
  obtain ⟨q,e,_⟩:=hr _ hx
  have:(es.all fun e=>(keyPart e.key).isSome)=false:=by
   rw [Array.all_eq_false]
   exact ⟨0,h0,by rw [e];exact Bool.false_ne_true⟩
  rw [this,Bool.and_false]
 unfold Builtin.Dict.mergeDict Builtin.Dict.showsAll
 rw [hne,hos]
 simp only [Bool.false_eq_true,if_false]
 refine wpAny_bind (wpAny_pure (wpAny_bind (wpAny_dictEntries ho hdo ?_)))
 rw [few]
 simp only [Bool.not_false,if_true]
 refine wpAny_bind (wpAny_dictEntries hd hdd ?_)
 rw [if_pos (show (#[]:Array DictEntry).isEmpty=true from rfl)]
 unfold Builtin.Dict.entriesForEmpty
 refine wpAny_bind (wpAny_bind (wpAny_dictEntries ho hdo (wpAny_bind ?_)))
 rw [<- Array.forIn_toList]
 refine wpAny_forIn_list _ (fun di _ z=>z=s/\∀ e∈di,e∈es.toList) _ (fun e di _ z hz'=>?_) (fun _ z hz'=>?_) _ _ ⟨rfl,fun e he=>he⟩
 ·obtain ⟨rfl,he⟩:=hz'
  obtain ⟨q,ek,ty⟩:=hr e (he e (List.mem_cons_self ..))
  unfold Builtin.Dict.quietEq
  rw [ek]
  refine wpAny_bind (wpAny_bind (wpAny_specialOf ty PySem.F.slot_tuple_eq.lookup (wpAny_pure ?_)))
  have no:(some (Value.builtin "tuple.__eq__")==some (Value.builtin "object.__eq__"))=false:=by decide
  rw [no]
  simp only [Bool.not_false,if_true]
  rw [if_neg (Nat.not_lt.2 (hf e (he e (List.mem_cons_self ..))))]
  exact wpAny_pure ⟨rfl,fun x hx=>he x (List.mem_cons_of_mem _ hx)⟩
 ·obtain ⟨rfl,_⟩:=hz'
  refine wpAny_pure ?_
  have ne:(!es.isEmpty)=true:=by simp;intro z;rw [z] at h0;exact absurd h0 (by simp)
  rw [if_pos ne]
  exact wpAny_bind (wpAny_updateDictKeysTo hd hdd (wpAny_pure h) (by omega))
end
theorem DRel.refs (I:Inv X pins σ H s):∀ {xs:DX} {us:DU},DRel xs us->gh X.K H xs->∀ u∈us,s.TypeIs (.ref u.2.1) "tuple"
 | _,_,.nil,_,u,hu=>nomatch hu
 | x::xs,y::us,.cons h t,kk,u,hu=>by
  rcases List.mem_cons.1 hu with rfl|hu
  ·obtain ⟨its,rv,⟨o,h1,h2,_⟩,_⟩:=I.tuple (kk x (List.mem_cons_self ..))
   exact ⟨o,h.2.1 ▸ h1,h2⟩
  ·exact DRel.refs I t (fun z hz=>kk z (List.mem_cons_of_mem _ hz)) u hu
theorem qq:jN X (.type "dict") (fun xs H Q=>∃ a o ys,xs=[.ref a]/\H a=some (DctO a o ys)/\gh X.K H ys/\HN ys/\ys≠[]/\∀ p o',H p=none->Q (.ref p) (upd H p (DctO p o' ys))):=by
 intro pins s σ H xs vs Q I r h
 obtain ⟨a,o0,ys,rfl,e,kk,tw,ne,q⟩:=h
 obtain ⟨u,rfl,rx⟩:=wn r
 cases rx
 obtain ⟨z,hd,us,rel,dd⟩:=mx I e kk
 obtain ⟨o,es,ep,h1,h2,h3,h4,h5,h6⟩:=id dd
 have tn:∀ h:Heap,h.get? s.heap.objs.size=some { cls:=.type "dict",data:=.dict #[] }->Shared.TypeIs { s with heap:=h } (.ref s.heap.objs.size) "dict":=fun h e=>⟨_,e,rfl⟩
 have hlt:=Heap.lt_size h1
 have ho:(s.heap.push { cls:=.type "dict",data:=.dict #[] }).get? a=some o:=Heap.get?_push_of_some _ h1
 have hn:(s.heap.push { cls:=.type "dict",data:=.dict #[] }).get? s.heap.objs.size=some { cls:=.type "dict",data:=.dict #[] }:=Heap.get?_push_size _ rfl
 have ta:Shared.TypeIs { s with heap:=s.heap.push { cls:=.type "dict",data:=.dict #[] } } (.ref a) "dict":=⟨o,ho,h2.1⟩
 have ez:es.size=us.length:=by rw [<- Array.length_toList,h4,List.length_map]
 have uz:us.length=ys.length:=(Paired.length rel).symm
 refine callType_codes (Q₁:=fun v t=>v=.ref s.heap.objs.size/\t={ s with heap:=s.heap.push { cls:=.type "dict",data:=.dict #[] } }) PySem.F.kt_called_dict (PySem.F.kt_typeCall_dict_1 _) PySem.F.entry_dict_init (kt_code_dict_new _ ⟨rfl,rfl⟩) fun v t hv=>?_
 obtain ⟨rfl,rfl⟩:=hv
 refine ⟨tn _ hn,PySem.F.args_dict_init_2 _ _,?_⟩
 have fin:∀ h',h'=(s.heap.push { cls:=.type "dict",data:=.dict #[] }).update s.heap.objs.size (Obj.mapDictKeys fun _=>es)->EP X pins σ Q (.ref s.heap.objs.size) { s with heap:=h' }:=fun h' eh=>by
  subst eh
  refine ⟨.ref s.heap.objs.size,_,I.laid (t':=s.toks) (fun b y hb=>?_) (Nat.le_refl _) (DctO.ok ⟨Heap.get?_update_self _ hn rfl,z,I.big0,⟨rfl,rfl,rfl⟩,us,rel,es,_,rfl,h4,h6⟩),rfl,q _ _ (I.hok.fresh (Nat.le_refl _))⟩
  exact (Heap.get?_update_ne _ _ _ _ (Nat.ne_of_lt (Heap.lt_size hb))).trans (Heap.get?_push_of_some _ hb)
 have mg:∀ {id:String} {Q':Unit->Shared->Prop} {A':Around} {E':Value->Shared->Prop},Q' () { s with heap:=(s.heap.push { cls:=.type "dict",data:=.dict #[] }).update s.heap.objs.size (Obj.mapDictKeys fun _=>es) }->wpAny (model X.prog X.w) A' (Builtin.Dict.mergeDict id s.heap.objs.size a) Q' E' { s with heap:=s.heap.push { cls:=.type "dict",data:=.dict #[] } }:=fun hq=>
  vV (beq_eq_false_iff_ne.2 (Nat.ne_of_gt hlt)) hd hn rfl ho h3 (by omega) (by rw [ez,uz];exact List.length_pos_iff.2 ne) (fun x hx=>by
   rw [h4] at hx
   obtain ⟨u,hu,rfl⟩:=List.mem_map.1 hx
   obtain ⟨ob,e1,e2⟩:=DRel.refs I rel kk u hu
   exact ⟨u.2.1,rfl,ob,Heap.get?_push_of_some _ e1,e2⟩) (fun x hx=>by
   have hh:=BC (c:=x.hash) (pT (rel.twos tw) h6)
   rw [<- Array.length_toList,Array.toList_filter,h4,List.filter_map,List.length_map]
   exact hh) hq
 unfold Builtin.«dict.__init__» Builtin.Dict.selfAndRest
 have sub:=PySem.F.kt_sub_dict
 wp_walk using wpAny_notOrdered_dict (tn _ hn),wpAny_specialOf ta PySem.F.slot_dict_iter.lookup,mg
 exact ⟨rfl,fin _ rfl⟩
section
variable {prog:Program} {w:World} {A:Around} {d:Addr} {o:Obj} {es:Array DictEntry} {ep:Nat}
theorem uK {Q:Value->Shared->Prop} (hs:(d==sysModules)=false) (ho:s.heap.get? d=some o) (hx:o.ExactDict) (h:Q (.ref s.heap.objs.size) { s with heap:=s.heap.push { cls:=.type "dict_items",data:=.fields #[.ref d] } }) :
  wpAny (model prog w) A (call (.builtin "dict.items") [.ref d]) Q E s:=by
 have t:s.TypeIs (.ref d) "dict":=⟨o,ho,hx.1⟩
 refine wpAny_call_entry PySem.F.slot_dict_items t PySem.F.entry_dict_items ?_ (PySem.F.args_dict_items_1 _)
 unfold Builtin.«dict.items» Builtin.Dict.noArgs Builtin.Dict.showsAll
 wp_walk using wpAny_notOrdered_dict t
 exact ⟨_,rfl,h⟩
theorem vB {v:Addr} {Q:Value->Shared->Prop} (hv:s.heap.get? v=some { cls:=.type "dict_items",data:=.fields #[.ref d] }) (ho:s.heap.get? d=some o) (hd:o.data=.dict es ep)
 (h:Q (.ref s.heap.objs.size) { s with heap:=s.heap.push { cls:=.type "dict_itemiterator",data:=.fields #[.none,.bool false,.ref d,.int 0 0,.int es.size 0,.int ep 0,.none,.none] } }) :
  wpAny (model prog w) A (pyIter (.ref v)) Q E s:=by
 have t:s.TypeIs (.ref v) "dict_items":=⟨_,hv,rfl⟩
 refine wpAny_pyIter_slot t PySem.F.slot_dict_items_iter (wpAny_call_entry PySem.F.slot_dict_items_iter t PySem.F.entry_dict_items_iter ?_ (PySem.F.args_dict_items_iter_1 _))
 unfold Builtin.«dict_items.__iter__» Builtin.Dict_items.dictOf Builtin.Dict_items.newIterator
 wp_walk using wpAny_field hv rfl (x:=.ref d) rfl,wpAny_dictEntries ho hd,wpAny_dictEpoch ho hd
 have own:Builtin.Dict_items.ownsTuple "dict_itemiterator"=true:=by decide
 refine ⟨_,rfl,"dict_itemiterator",_,⟨_,Heap.get?_push_size _ rfl,rfl⟩,PySem.F.slot_dict_itemiterator_next.lookup,?_⟩
 simpa [own,rawInt,Builtin.Dict_items.ownedTupleFields] using h
noncomputable def KW (it d:Addr) (n ep i:Nat) (h:Heap):Prop:=∃ x y,IsItemIter h it d i n ep x y
theorem vU {Q:Option Value->Shared->Prop} {x y:Value} (hi:IsItemIter s.heap it d i es.size ep x y) (hne:d≠it) (ho:s.heap.get? d=some o) (hd:o.data=.dict es ep) (hl:i<es.size)
 (h:∀ h',IsItemIterOut h' it d (i+1) es.size ep es[i].key es[i].val s.heap.objs.size->h'.get? s.heap.objs.size=some { cls:=.type "tuple",data:=.seq #[es[i].key,es[i].val] }->(∀ b ob,b≠it->s.heap.get? b=some ob->h'.get? b=some ob)->Q (some (.ref s.heap.objs.size)) { s with heap:=h' }) :
  wpAny (model prog w) A (pyNext (.ref it)) Q E s:=by
 have t:s.TypeIs (.ref it) "dict_itemiterator":=⟨_,hi,rfl⟩
 have own:Builtin.Dict_items.ownsTuple "dict_itemiterator"=true:=by decide
 unfold pyNext
 refine wpAny_bind (wpAny_attempt (wpAny_callSpecial?_slot (name:=Str.ofString "__next__") t PySem.F.slot_dict_itemiterator_next (wpAny_call_entry PySem.F.slot_dict_itemiterator_next t PySem.F.entry_dict_itemiterator_next ?_ (PySem.F.args_dict_itemiterator_next_1 _))))
 unfold Builtin.«dict_itemiterator.__next__»
 wp_walk using wpAny_typeNameOfWhole_itemiter t,wpAny_fieldsOf hi rfl,wpAny_dictEntries ho hd,wpAny_dictEpoch ho hd
 have i0:(if (i:Int)<0 then none else es[(i:Int).toNat]?)=some es[i]:=by
  rw [if_neg (by omega),Int.toNat_natCast,Array.getElem?_eq_getElem hl]
 rw [i0]
 have e0:((i+1:Nat):Int)=(i:Int)+1:=by omega
 refine wpAny_bind (wpAny_bind (wpAny_typeNameOfWhole_itemiter t (wpAny_pure (wpAny_bind (wpAny_isOneOf_itemiter t ?_)))))
 show wpAny _ _ (setField (.ref it) 3 (rawInt ((i:Int)+1))>>=_) _ _ s
 refine wpAny_bind (wpAny_setField_rec hi (by simp) fun h1 e1 s1=>wpAny_bind (wpAny_holding ?_))
 have e1:IsItemIter h1 it d (i+1) es.size ep x y:=by unfold IsItemIter;rw [e0];simpa [rawInt] using e1
 have t1:Shared.TypeIs { s with heap:=h1 } (.ref it) "dict_itemiterator":=⟨_,e1,rfl⟩
 refine wpAny_bind (wpAny_isOneOf_itemiter t1 (wpAny_bind (wpAny_isOneOf_itemiter t1 ?_)))
 show wpAny _ _ (Builtin.Dict_items.pairFromOwner (.ref it) 6 es[i].key es[i].val) _ _ { s with heap:=h1 }
 unfold Builtin.Dict_items.pairFromOwner
 refine wpAny_bind (wpAny_newTuple ?_)
 have e2:IsItemIter (h1.push { cls:=.type "tuple",data:=.seq #[es[i].key,es[i].val] }) it d (i+1) es.size ep x y:=Heap.get?_push_of_some _ e1
 have lt:it<s.heap.objs.size:=Heap.lt_size hi
 have z1:h1.objs.size=s.heap.objs.size:=s1.1
 have g2:(h1.push { cls:=.type "tuple",data:=.seq #[es[i].key,es[i].val] }).get? s.heap.objs.size=some { cls:=.type "tuple",data:=.seq #[es[i].key,es[i].val] }:=by rw [<- z1];exact Heap.get?_push_size _ rfl
 have k2:∀ b ob,b≠it->s.heap.get? b=some ob->(h1.push { cls:=.type "tuple",data:=.seq #[es[i].key,es[i].val] }).get? b=some ob:=fun b ob n q=>Heap.get?_push_of_some _ (s1.extBut b ob n q)
 rw [show ({ s with heap:=h1 }:Shared).heap.objs.size=s.heap.objs.size from z1]
 generalize h1.push { cls:=.type "tuple",data:=.seq #[es[i].key,es[i].val] }=h2 at e2 g2 k2 ⊢
 clear s1 e1 t1 z1 hi t
 unfold Builtin.Dict_items.ownedTupleIsFree
 have gt:=Nat.ne_of_gt lt
 refine wpAny_bind (wpAny_bind (wpAny_field e2 rfl (x:=.none) rfl (wpAny_pure ?_)))
 rw [if_pos rfl]
 refine wpAny_bind (wpAny_field e2 rfl (x:=x) rfl (wpAny_bind (wpAny_field e2 rfl (x:=y) rfl (wpAny_bind (wpAny_setField_rec e2 (by simp) fun h3 (e3:IsItemIter h3 it d (i+1) es.size ep es[i].key y) s3=>?_)))))
 refine wpAny_bind (wpAny_setField_rec e3 (by simp) fun h4 (e4:IsItemIter h4 it d (i+1) es.size ep es[i].key es[i].val) s4=>wpAny_bind (wpAny_setField_rec e4 (by simp) fun h5 (e5:IsItemIterOut h5 it d (i+1) es.size ep es[i].key es[i].val s.heap.objs.size) s5=>?_))
 refine wpAny_bind (wpAny_setField_rec e5 (by simp) fun h6 (e6:IsItemIterOut h6 it d (i+1) es.size ep es[i].key es[i].val s.heap.objs.size) s6=>wpAny_bind (wpAny_letGo (wpAny_pure (wpAny_pure ⟨_,rfl,wpAny_pure (h h6 e6 ?_ ?_)⟩))))
 ·exact s6.extBut _ _ gt (s5.extBut _ _ gt (s4.extBut _ _ gt (s3.extBut _ _ gt g2)))
 ·exact fun b ob n q=>s6.extBut b ob n (s5.extBut b ob n (s4.extBut b ob n (s3.extBut b ob n (k2 b ob n q))))
theorem yb {Q:Option Value->Shared->Prop} {x y:Value} (hh:A.handled=none) (hi:IsItemIter s.heap it d i es.size ep x y) (hne:d≠it) (ho:s.heap.get? d=some o) (hd:o.data=.dict es ep) (hl:es.size<=i)
 (h:∀ h',(∀ b ob,b≠it->s.heap.get? b=some ob->h'.get? b=some ob)->Q none { s with heap:=h' }):wpAny (model prog w) A (pyNext (.ref it)) Q E s:=by
 have t:s.TypeIs (.ref it) "dict_itemiterator":=⟨_,hi,rfl⟩
 unfold pyNext
 refine wpAny_bind (wpAny_attempt (wpAny_callSpecial?_slot (name:=Str.ofString "__next__") t PySem.F.slot_dict_itemiterator_next (wpAny_call_entry PySem.F.slot_dict_itemiterator_next t PySem.F.entry_dict_itemiterator_next ?_ (PySem.F.args_dict_itemiterator_next_1 _))))
 unfold Builtin.«dict_itemiterator.__next__»
 wp_walk using wpAny_typeNameOfWhole_itemiter t,wpAny_fieldsOf hi rfl,wpAny_dictEntries ho hd,wpAny_dictEpoch ho hd
 have i0:(if (i:Int)<0 then none else es[(i:Int).toNat]?)=none:=by
  rw [if_neg (by omega),Int.toNat_natCast,Array.getElem?_eq_none hl]
 rw [i0]
 refine wpAny_bind (wpAny_bind (wpAny_typeNameOfWhole_itemiter t (wpAny_pure ?_)))
 show wpAny _ _ (setField (.ref it) 2 .none>>=_) _ _ s
 refine wpAny_bind (wpAny_setField_rec hi (by simp) fun h1 e1 s1=>?_)
 have sub:=isSubtype_stop
 have hh1:A.in1.handled=none:=hh
 clear i0 e1 t hi
 simp only [newExc,raiseNew]
 wp_walk
 exact h _ fun b ob n q=>Heap.get?_push_of_some _ (Heap.get?_push_of_some _ (s1.extBut b ob n q))
end
theorem zI {ob o:Obj} (hb:b<h.objs.size) (q:(h.push ob).get? b=some o):h.get? b=some o:=by
 unfold Heap.get? Heap.push at *
 simpa [Array.getElem?_push,Nat.ne_of_lt hb] using q
noncomputable def Itd (a:Addr) (o:Obj) (xs:DX):It:=
 ⟨fun i H=>H a=some (DctO a o xs)/\i<xs.length,fun i H x H'=>∃ p y,x=.ref p/\H p=none/\xs[i]?=some y/\H'=upd H p (.tup [.ref y.2.1,y.2.2]),fun i H=>H a=some (DctO a o xs)/\xs.length<=i⟩
theorem DRel.get:∀ {xs:DX} {us:DU} {i:Nat} {x:List Bool×Addr×V},DRel xs us->xs[i]?=some x->∃ u,us[i]?=some u/\x.2.1=u.2.1/\RelV x.2.2 u.2.2
 | _,_,i,_,.nil,e=>by simp at e
 | _,_,0,_,.cons h _,e=>by simp at e;subst e;exact ⟨_,rfl,h.2⟩
 | _,_,i+1,_,.cons _ t,e=>DRel.get (i:=i) t (by simpa using e)
theorem lN {o:Obj} {xs:DX} (I:Inv X pins σ H s) (e:H a=some (DctO a o xs)):D6 a o xs s.heap:=
 (show ObjOk X.prog X.w H s.heap a (DctO a o xs) from I.hok a _ e).1
theorem vm {w:World} {K:PySem.W.Frag} {tp:Pos} (a it:Addr) (o:Obj) (xs:DX) {es:Array DictEntry} {ep:Nat} (hd:o.data=.dict es ep) (hz:es.size=xs.length) :
  Turn P w K (.Tuple elts kt tp) (Itd a o xs) [it] it (fun i h=>KW it a es.size ep i h) where
 mem:=by simp
 obj:=fun i h st b hb=>by
  obtain ⟨x,y,q⟩:=st
  obtain rfl:b=it:=by simpa using hb
  exact ⟨_,q,fun v z=>by cases z⟩
 keep:=fun i h h' ⟨x,y,q⟩ k=>⟨x,y,k it (by simp) _ q⟩
 item:=by
  intro X hP hw hK hc i pins s σ H E I hf st hg
  subst hP hw hK
  obtain ⟨x,y,hi⟩:=st
  obtain ⟨e,hl⟩:=hg
  obtain ⟨h1,z1,z2,h2,us,r,es',ep',h3,h4,h5⟩:=lN I e
  rw [hd] at h3
  cases h3
  obtain ⟨f0,f1,f2,f3,f4,f5⟩:=hf it (by simp)
  have ne:a≠it:=fun z=>by rw [z,f0] at e;cases e
  have hlt:i<es.size:=by omega
  obtain ⟨u,hu,k1,k2⟩:=r.get (List.getElem?_eq_getElem hl)
  have ee:es[i]=⟨pc u.1,.ref u.2.1,u.2.2⟩:=by
   have q:es.toList[i]?=some es[i]:=by simp [hlt]
   rw [h4,List.getElem?_map,hu] at q
   exact (Option.some.inj q).symm
  have hp:H s.heap.objs.size=none:=I.hok.fresh (Nat.le_refl _)
  have npt:s.heap.objs.size≠it:=Nat.ne_of_gt (Heap.lt_size hi)
  refine vU hi ne h1 hd hlt fun h6 o6 g6 k6=>⟨_,rfl,wpAny_letOwnedTupleGo_items o6 fun h7 o7 s7=>?_⟩
  have Ia:Inv X pins σ (upd H s.heap.objs.size (.tup [.ref xs[i].2.1,xs[i].2.2])) { s with heap:=s.heap.push { cls:=.type "tuple",data:=.seq #[es[i].key,es[i].val] } }:=by
   refine I.laid (t':=s.toks) (fun b ob q=>Heap.get?_push_of_some _ q) (Nat.le_refl _) ⟨by show 2<=sizeLine;decide,[es[i].key,es[i].val],.cons ?_ (.cons ?_ .nil),IsTup.new _ _⟩
   ·rw [ee,k1];rfl
   ·rw [ee];exact k2
  have Ib:Inv X pins σ (upd H s.heap.objs.size (.tup [.ref xs[i].2.1,xs[i].2.2])) { s with heap:=h7 }:=by
   refine Inv.turned (s:={ s with heap:=s.heap.push { cls:=.type "tuple",data:=.seq #[es[i].key,es[i].val] } }) (h':=h7) (t':=s.toks) (it:=it) Ia (fun b ob n q=>?_) (by rw [aC (Ne.symm npt)];exact f0) f1 f3 f4 f5
   refine (s7.2 b n).trans ?_
   by_cases z:b=s.heap.objs.size
   ·subst z
    have q':=Heap.get?_push_size s.heap (o:={ cls:=.type "tuple",data:=.seq #[es[i].key,es[i].val] }) rfl
    exact (g6.trans q'.symm).trans q
   ·refine k6 b ob n ?_
    have q:(s.heap.push { cls:=.type "tuple",data:=.seq #[es[i].key,es[i].val] }).get? b=some ob:=q
    rcases Nat.lt_or_ge b s.heap.objs.size with hb|hb
    ·exact zI hb q
    ·have hlt:=Heap.lt_size q
     rw [Heap.size_push] at hlt
     exact absurd (Nat.le_antisymm (Nat.le_of_lt_succ hlt) hb) z
  exact ⟨.ref s.heap.objs.size,_,Ib,rfl,⟨_,_,rfl,hp,List.getElem?_eq_getElem hl,rfl⟩,⟨_,_,o7⟩,fun b hb=>by
   obtain rfl:b=it:=by simpa using hb
   rw [aC (Ne.symm npt)];exact f0⟩
 done:=by
  intro X hP hw hK hc i pins s σ H E I hf st hg
  subst hP hw hK
  obtain ⟨x,y,hi⟩:=st
  obtain ⟨e,hl⟩:=hg
  obtain ⟨h1,_⟩:=lN I e
  obtain ⟨f0,f1,f2,f3,f4,f5⟩:=hf it (by simp)
  have ne:a≠it:=fun z=>by rw [z,f0] at e;cases e
  exact yb (I.ok.hd hc) hi ne h1 hd (by omega) fun h' k=>⟨rfl,I.turned (t':=s.toks) k f0 f1 f3 f4 f5⟩
 self:=fun A i s Q E ⟨x,y,q⟩ h=>PySem.W.kcp_self q h
theorem zB {o:Expr} {t:TE} {tp ap cp:Pos} (ho:PE X o t) (hbase:attributeBase o "items" X.env (eval o X.env)=eval o X.env:=by rfl) (hline:(ap.endLine==cp.line)=true:=by rfl) :
  PI X (.Tuple elts kt tp) (.Call (.Attribute o "items" ap) [] [] cp) (fun σ H R=>t σ H fun x H1=>∃ a ob xs,x=.ref a/\H1 a=some (DctO a ob xs)/\R (Itd a ob xs) H1):=fun pins s σ H R I h=>by
 refine wpAny_Call_method0_late hbase hline (thn (ho pins s σ H _ I h) fun v s1 ⟨x,H1,I1,r1,a,ob,xs,ex,e,hR⟩=>?_)
 subst ex
 cases r1
 obtain ⟨h1,z1,z2,h2,us,r,es,ep,h3,h4,h5⟩:=lN I1 e
 have hz:es.size=xs.length:=by rw [<- Array.length_toList,h4,List.length_map];exact (Paired.length r).symm
 refine ⟨"dict","dict.items",PySem.F.plainAttrs_dict,PySem.F.slot_dict_items,PySem.F.type_dict_items,⟨ob,h1,h2.1⟩,fun b eb=>?_,Calls.callWith_builtin rfl (PySem.evalArgs_none (uK z2 h1 h2 ?_))⟩
 ·cases eb;exact ⟨ob,h1,h2.2.1⟩
 have I2:Inv X pins σ H1 { s1 with heap:=s1.heap.push { cls:=.type "dict_items",data:=.fields #[.ref a] } }:=I1.kept (t':=s1.toks) fun b q e=>Heap.get?_push_of_some _ e
 refine vB (Heap.get?_push_size _ rfl) (Heap.get?_push_of_some _ h1) h3 ?_
 refine ⟨_,[_],_,_,H1,rfl,I2.kept (t':=s1.toks) fun b q e=>Heap.get?_push_of_some _ e,vm a _ ob xs h3 hz,⟨_,_,Heap.get?_push_size _ rfl⟩,fun b hb=>?_,hR⟩
 obtain rfl:=List.mem_singleton.1 hb
 exact I2.fpOk (Nat.le_refl _) (I2.hok.fresh (Nat.le_refl _))
end L2
set_option maxRecDepth 100000
set_option maxHeartbeats 4000000
namespace L2
open PySem PySem.Spec PyProof.Rows
inductive D where
  | non | bl (b : Bool) | int (i : Int) | str (x : List Nat) | tup (xs : List D) | lst (fz : Bool) (xs : List D) | exc (C : Addr)
  /-- a dict whose keys are tuples of two truths, by their numbers, in the order of their coming -/
  | dct (ks : List Nat) (xs : List D)
noncomputable def code (a b:Bool):Nat:=(if a then 1 else 0)+(if b then 2 else 0)
inductive KeysAt (K:PySem.W.Frag) (G:Hp):DX->List Nat->Prop
 | nil:KeysAt K G [] []
 | cons {q:Addr} {v:V} {a b:Bool} {xs:DX} {ks:List Nat} (h:SqT K G q [.bl a,.bl b]) (t:KeysAt K G xs ks):KeysAt K G (([a,b],q,v)::xs) (code a b::ks)
noncomputable def EW (a C:Addr):Heap->Prop:=fun h=>∃ ob,h.get? a=some ob/\ob.cls=.ref C
mutual
inductive Rep (K:PySem.W.Frag) (G:Hp):V->D->Prop
 | non:Rep K G .non .non
 | bl (b:Bool):Rep K G (.bl b) (.bl b)
 | int (i:Int):Rep K G (.int i) (.int i)
 | str (x:Str) (h:x.length<=sizeLine):Rep K G (.str x) (.str x.cps.toList)
 | tup {a:Addr} {vs:List V} {ds:List D} (h:SqT K G a vs) (r:Reps K G vs ds):Rep K G (.ref a) (.tup ds)
 | lst {a:Addr} {vs:List V} {ds:List D} (h:G a=some (.lst vs)) (r:Reps K G vs ds):Rep K G (.ref a) (.lst false ds)
 | fls {a:Addr} {vs:List V} {ds:List D} (h:SqL K G a vs) (r:Reps K G vs ds):Rep K G (.ref a) (.lst true ds)
 | exc {a C:Addr} (h:G a=some (.ext (EW a C))):Rep K G (.ref a) (.exc C)
 | dct {a:Addr} {o:Obj} {xs:DX} {ks:List Nat} {ds:List D} (h:G a=some (DctO a o xs)) (k:KeysAt K G xs ks) (r:Reps K G (xs.map (·.2.2)) ds):Rep K G (.ref a) (.dct ks ds)
inductive Reps (K:PySem.W.Frag) (G:Hp):List V->List D->Prop
 | nil:Reps K G [] []
 | cons {v:V} {d:D} {vs:List V} {ds:List D} (r:Rep K G v d) (t:Reps K G vs ds):Reps K G (v::vs) (d::ds)
end
section
variable {K:PySem.W.Frag} {G' G1 H1 G2 H2:Hp}
theorem SqT.mono (e:Same G G') (h:SqT K G a xs):SqT K G' a xs:=by
 rcases h with (h|⟨o,h⟩)|h
 ·exact .inl (.inl (e _ _ h))
 ·exact .inl (.inr ⟨o,e _ _ h⟩)
 ·exact .inr h
theorem KeysAt.mono (e:Same G G'):∀ {xs:DX} {ks:List Nat},KeysAt K G xs ks->KeysAt K G' xs ks
 | _,_,.nil=>.nil
 | _,_,.cons h t=>.cons (h.mono e) (t.mono e)
theorem SqL.mono (e:Same G G') (h:SqL K G a xs):SqL K G' a xs:=e.seq h
mutual
theorem Rep.mono (e:Same G G'):∀ {v:V} {d:D},Rep K G v d->Rep K G' v d
 | _,_,.non=>.non
 | _,_,.bl b=>.bl b
 | _,_,.int i=>.int i
 | _,_,.str x h=>.str x h
 | _,_,.tup h r=>.tup (h.mono e) (Reps.mono e r)
 | _,_,.lst h r=>.lst (e _ _ h) (Reps.mono e r)
 | _,_,.fls h r=>.fls (h.mono e) (Reps.mono e r)
 | _,_,.exc h=>.exc (e _ _ h)
 | _,_,.dct h k r=>.dct (e _ _ h) (k.mono e) (Reps.mono e r)
theorem Reps.mono (e:Same G G'):∀ {vs:List V} {ds:List D},Reps K G vs ds->Reps K G' vs ds
 | _,_,.nil=>.nil
 | _,_,.cons r t=>.cons (Rep.mono e r) (Reps.mono e t)
end
section inv
theorem Rep.int_inv {i:Int} (r:Rep K G v (.int i)):v=.int i:=by cases r;rfl
theorem Rep.bl_inv {b:Bool} (r:Rep K G v (.bl b)):v=.bl b:=by cases r;rfl
theorem Rep.non_inv (r:Rep K G v .non):v=.non:=by cases r;rfl
theorem Rep.str_inv {x:List Nat} (r:Rep K G v (.str x)):∃ y:Str,v=.str y/\y.cps.toList=x/\y.length<=sizeLine:=by
 generalize e:D.str x=d at r
 cases r with
 | str y h=>cases e;exact ⟨y,rfl,rfl,h⟩
 | _=>cases e
theorem Rep.tup_inv {ds:List D} (r:Rep K G v (.tup ds)):∃ a vs,v=.ref a/\SqT K G a vs/\Reps K G vs ds:=by
 cases r with
 | tup h t=>exact ⟨_,_,rfl,h,t⟩
theorem Rep.lst_inv {ds:List D} (r:Rep K G v (.lst false ds)):∃ a vs,v=.ref a/\G a=some (.lst vs)/\Reps K G vs ds:=by
 cases r with
 | lst h t=>exact ⟨_,_,rfl,h,t⟩
theorem Rep.seq_inv {f:Bool} {ds:List D} (r:Rep K G v (.lst f ds)):∃ a vs,v=.ref a/\SqL K G a vs/\Reps K G vs ds:=by
 cases r with
 | lst h t=>exact ⟨_,_,rfl,.of h,t⟩
 | fls h t=>exact ⟨_,_,rfl,h,t⟩
theorem Rep.strL {x:List Nat} (e:y.cps.toList=x) (h:x.length<=sizeLine):Rep K G (.str y) (.str x):=by
 subst e;exact .str y (by simpa [Str.length] using h)
end inv
theorem Reps.length:∀ {vs:List V} {ds:List D},Reps K G vs ds->vs.length=ds.length
 | _,_,.nil=>rfl
 | _,_,.cons _ t=>by simp [Reps.length t]
theorem Reps.get:∀ {vs:List V} {ds:List D} {i:Nat} {d:D},Reps K G vs ds->ds[i]?=some d->∃ v,vs[i]?=some v/\Rep K G v d
 | _,_,_,_,.nil,e=>by simp at e
 | _,_,0,_,.cons r _,e=>by simp at e;subst e;exact ⟨_,rfl,r⟩
 | _,_,i+1,d,.cons _ t,e=>by
  obtain ⟨v,h1,h2⟩:=Reps.get (i:=i) (d:=d) t (by simpa using e)
  exact ⟨v,by simpa using h1,h2⟩
theorem Reps.append:∀ {vs ws:List V} {ds es:List D},Reps K G vs ds->Reps K G ws es->Reps K G (vs++ws) (ds++es)
 | _,_,_,_,.nil,s=>s
 | _,_,_,_,.cons r t,s=>.cons r (Reps.append t s)
theorem Reps.take:∀ {vs:List V} {ds:List D} (n:Nat),Reps K G vs ds->Reps K G (vs.take n) (ds.take n)
 | _,_,0,_=>by simpa using Reps.nil
 | _,_,_+1,.nil=>.nil
 | _,_,n+1,.cons r t=>.cons r (Reps.take n t)
theorem Reps.drop:∀ {vs:List V} {ds:List D} (n:Nat),Reps K G vs ds->Reps K G (vs.drop n) (ds.drop n)
 | _,_,0,r=>r
 | _,_,_+1,.nil=>.nil
 | _,_,n+1,.cons _ t=>Reps.drop n t
theorem Reps.set {d:D} (r:Rep K G v d):∀ {vs:List V} {ds:List D} (i:Nat),Reps K G vs ds->Reps K G (vs.set i v) (ds.set i d)
 | _,_,_,.nil=>.nil
 | _,_,0,.cons _ t=>.cons r t
 | _,_,i+1,.cons q t=>.cons q (Reps.set r i t)
theorem Reps.rep {ds:List D} (r:Reps K G vs ds):∀ n:Nat,Reps K G (List.replicate n vs).flatten (List.replicate n ds).flatten
 | 0=>.nil
 | n+1=>by
  simp only [List.replicate_succ,List.flatten_cons]
  exact Reps.append r (Reps.rep r n)
structure Up (G H G' H':Hp):Prop where
 sub:Same G' H'
 gg:Same G G'
 hh:Same H H'
 fr:∀ a o,G' a=some o->G a=some o\/H a=none
theorem Up.refl (s:Same G H):Up G H G H:=⟨s,.refl _,.refl _,fun _ _ h=>.inl h⟩
theorem Up.trans (a:Up G H G1 H1) (b:Up G1 H1 G2 H2):Up G H G2 H2:=⟨b.sub,a.gg.trans b.gg,a.hh.trans b.hh,fun c o h=>by
 rcases b.fr c o h with h|h
 ·exact a.fr c o h
 ·exact .inr (a.hh.free h)⟩
theorem Same.both {o:HO} (s:Same G H):Same (upd G p o) (upd H p o):=fun a u h=>by
 unfold L2.upd at h ⊢
 split
 ·rename_i e;rw [if_pos e] at h;exact h
 ·rename_i e;rw [if_neg e] at h;exact s a u h
theorem Same.into {o:HO} (h:H p=none):Same H (upd H p o):=fun a u e=>by
 rw [aC (aJ e h)];exact e
theorem Up.new {o:HO} (s:Same G H) (hp:H p=none):Up G H (upd G p o) (upd H p o):=
 ⟨s.both,.into (s.free hp),.into hp,fun a u h=>by
  by_cases e:a=p
  ·subst e;exact .inr hp
  ·rw [aC e] at h;exact .inl h⟩
end
inductive R (α:Type) where
 | ok (a:α)|ex (C:Addr)|no
noncomputable def R.bind {α β:Type}:R α->(α->R β)->R β
 | .ok a,f=>f a
 | .ex C,_=>.ex C
 | .no,_=>.no
noncomputable instance:Monad R where
 pure:=.ok
 bind:=R.bind
section
variable {α β:Type}
@[simp] theorem R.ok_bind (a:α) (f:α->R β):(R.ok a>>=f)=f a:=rfl
@[simp] theorem R.ex_bind (C:Addr) (f:α->R β):((R.ex C:R α)>>=f)=.ex C:=rfl
noncomputable def R.post (m:R α) (P:α->Prop) (E:Addr->Prop):Prop:=match m with
 | .ok a=>P a
 | .ex C=>E C
 | .no=>False
theorem R.post.mono {m:R α} {P P':α->Prop} {E E':Addr->Prop} (h:m.post P E) (hp:∀ a,P a->P' a) (he:∀ C,E C->E' C):m.post P' E':=by
 cases m with
 | ok a=>exact hp a h
 | ex C=>exact he C h
 | no=>exact h
noncomputable def ofO:Option α->R α
 | some a=>.ok a
 | none=>.no
@[simp] theorem ck (a:α):ofO (some a)=R.ok a:=rfl
theorem ofO.ok {o:Option α} {P:α->Prop} {E:Addr->Prop} (h:(ofO o).post P E):∃ a,o=some a/\P a:=by
 cases o with
 | none=>exact h.elim
 | some a=>exact ⟨a,rfl,h⟩
end
inductive Fd where
 | val (d:D)|own (ds:List D)
inductive Sl where
  | val (d : D)
  /-- a list that no other name, and no datum, holds -/
  | own (ds : List D)
  /-- an instance of the class at C, at p, that no other name, and no datum, holds; m: it may be changed -/
  | obj (m : Bool) (C p : Addr) (fs : List (Nat × Fd))
noncomputable abbrev Ev:=List (Option Sl)
noncomputable def rdV (ρ:Ev) (i:Nat):R D:=match ρ[i]? with
 | some (some (.val d))=>.ok d
 | _=>.no
noncomputable abbrev rvz(i:Nat):Ev->R D:=fun ρ=>rdV ρ i
noncomputable abbrev ciz(n:Int):Ev->R D:=fun _=>R.ok (D.int n)
noncomputable abbrev nlz:Ev->R (List D):=fun _=>R.ok []
noncomputable abbrev csz(x:List Nat):Ev->R D:=fun _=>R.ok (D.str x)
noncomputable def fnames:List Str:=["states","taken_back","width","screen","last_notes","tasks","numbers_given"]
noncomputable def cP (k:Nat):Str:=fnames.getD k ""
noncomputable abbrev jg:=Addr->Option (Nat×Nat)
noncomputable def FdAt (K:PySem.W.Frag) (H₀ G H:Hp) (ow:jg) (i:Nat) (m:Bool) (k:Nat):Fd->V->Prop
 | .val d,v=>Rep K G v d
 | .own ds,v=>∃ l ws,v=.ref l/\H l=some (.lst ws)/\G l=none/\(m=true->H₀ l=none)/\Reps K G ws ds/\ow l=some (i,k+1)
inductive FdsAt (K:PySem.W.Frag) (H₀ G H:Hp) (ow:jg) (i:Nat) (m:Bool):List (Nat×Fd)->List (Str×V)->Prop
 | nil:FdsAt K H₀ G H ow i m [] []
 | cons {k:Nat} {fd:Fd} {v:V} {fs:List (Nat×Fd)} {vs:List (Str×V)} (h:k<fnames.length) (nk:fs.lookup k=none) (r:FdAt K H₀ G H ow i m k fd v) (t:FdsAt K H₀ G H ow i m fs vs):FdsAt K H₀ G H ow i m ((k,fd)::fs) ((cP k,v)::vs)
noncomputable def InsAt (K:PySem.W.Frag) (H₀ G H:Hp) (ow:jg) (i:Nat) (m:Bool) (C p:Addr) (fs:List (Nat×Fd)):Prop:=
 ∃ dx vs,H p=some (.ins C dx vs)/\H dx=some (.own p)/\G p=none/\G dx=none/\(m=true->H₀ p=none/\H₀ dx=none)/\ow p=some (i,0)/\ow dx=some (i,0)/\FdsAt K H₀ G H ow i m fs vs
noncomputable def DcoAt (K:PySem.W.Frag) (H₀ G H:Hp) (ow:jg) (i:Nat) (m:Bool) (p:Addr) (fs:List (Nat×Fd)):Prop:=
 ∃ o xs ks ds,H p=some (DctO p o xs)/\G p=none/\(m=true->H₀ p=none)/\ow p=some (i,0)/\KeysAt K G xs ks/\Reps K G (xs.map (·.2.2)) ds/\fs=ks.zip (ds.map Fd.val)
noncomputable abbrev DC:Addr:=0
noncomputable def ObjAt (K:PySem.W.Frag) (H₀ G H:Hp) (ow:jg) (i:Nat) (m:Bool) (C p:Addr) (fs:List (Nat×Fd)):Prop:=(C≠DC/\InsAt K H₀ G H ow i m C p fs)\/(C=DC/\DcoAt K H₀ G H ow i m p fs)
theorem FR:∀ {ds:List D} {k:Nat} {es:List D},(ks.zip (ds.map Fd.val)).lookup k≠some (.own es):=by
 induction ks with
 | nil=>intro ds k es h;simp at h
 | cons a ks ih=>
  intro ds k es h
  cases ds with
  | nil=>simp at h
  | cons d ds=>
   simp only [List.map_cons,List.zip_cons_cons,List.lookup_cons] at h
   split at h
   ·cases h
   ·exact ih h
section
variable {K:PySem.W.Frag} {H₀:Hp} {ow:jg} {m:Bool} {fs:List (Nat×Fd)}
theorem ObjAt.ins (h:ObjAt K H₀ G H ow i m C p fs) (ne:C≠DC):InsAt K H₀ G H ow i m C p fs:=(h.resolve_right fun z=>ne z.1).2
theorem ObjAt.dco (h:ObjAt K H₀ G H ow i m DC p fs):DcoAt K H₀ G H ow i m p fs:=(h.resolve_left fun z=>z.1 rfl).2
theorem ObjAt.insH {C' dx:Addr} {vs:List (Str×V)} (h:ObjAt K H₀ G H ow i m C p fs) (e:H p=some (.ins C' dx vs)):C≠DC/\InsAt K H₀ G H ow i m C p fs:=h.resolve_right fun ⟨_,o,xs,ks,ds,z,_⟩=>by rw [z] at e;cases e
theorem ObjAt.insL {es:List D} (h:ObjAt K H₀ G H ow i m C p fs) (e:fs.lookup k=some (.own es)):InsAt K H₀ G H ow i m C p fs:=(h.resolve_right fun ⟨_,o,xs,ks,ds,_,_,_,_,_,_,z⟩=>by rw [z] at e;exact FR e).2
end
section
variable {K:PySem.W.Frag} {H₀ H₀' G':Hp} {ow ow':jg}
structure ObKeep (H₀ H₀' G H G' H':Hp) (ow ow':jg) (i:Nat):Prop where
 hh:∀ a t o,ow a=some (i,t)->H a=some o->H' a=some o
 gg:Same G G'
 gn:∀ a t o,ow a=some (i,t)->H a=some o->G a=none->G' a=none
 oo:∀ a t o,ow a=some (i,t)->H a=some o->ow' a=some (i,t)
 h0:∀ a o,H a=some o->G a=none->H₀ a=none->H₀' a=none
theorem FdAt.keep (k:ObKeep H₀ H₀' G H G' H' ow ow' i) {m:Bool} {n:Nat}:∀ {fd:Fd} {v:V},FdAt K H₀ G H ow i m n fd v->FdAt K H₀' G' H' ow' i m n fd v
 | .val d,v,r=>Rep.mono k.gg (show Rep K G v d from r)
 | .own ds,v,⟨l,ws,e,h1,h2,h3,h4,h5⟩=>⟨l,ws,e,k.hh l _ _ h5 h1,k.gn l _ _ h5 h1 h2,fun z=>k.h0 l _ h1 h2 (h3 z),h4.mono k.gg,k.oo l _ _ h5 h1⟩
theorem FdsAt.keep (k:ObKeep H₀ H₀' G H G' H' ow ow' i) {m:Bool}:∀ {fs:List (Nat×Fd)} {vs:List (Str×V)},FdsAt K H₀ G H ow i m fs vs->FdsAt K H₀' G' H' ow' i m fs vs
 | _,_,.nil=>.nil
 | _,_,.cons h nk r t=>.cons h nk (FdAt.keep k r) (FdsAt.keep k t)
theorem InsAt.keep (k:ObKeep H₀ H₀' G H G' H' ow ow' i) {m:Bool} {fs:List (Nat×Fd)} (h:InsAt K H₀ G H ow i m C p fs):InsAt K H₀' G' H' ow' i m C p fs:=by
 obtain ⟨dx,vs,h1,h2,h3,h4,h5,h6,h7,h8⟩:=h
 exact ⟨dx,vs,k.hh p _ _ h6 h1,k.hh dx _ _ h7 h2,k.gn p _ _ h6 h1 h3,k.gn dx _ _ h7 h2 h4,fun z=>⟨k.h0 p _ h1 h3 (h5 z).1,k.h0 dx _ h2 h4 (h5 z).2⟩,k.oo p _ _ h6 h1,k.oo dx _ _ h7 h2,h8.keep k⟩
theorem DcoAt.keep (k:ObKeep H₀ H₀' G H G' H' ow ow' i) {m:Bool} {fs:List (Nat×Fd)} (h:DcoAt K H₀ G H ow i m p fs):DcoAt K H₀' G' H' ow' i m p fs:=
 let ⟨o,xs,ks,ds,h1,h2,h3,h4,h5,h6,h7⟩:=h
 ⟨o,xs,ks,ds,k.hh p _ _ h4 h1,k.gn p _ _ h4 h1 h2,fun z=>k.h0 p _ h1 h2 (h3 z),k.oo p _ _ h4 h1,h5.mono k.gg,h6.mono k.gg,h7⟩
theorem ObjAt.keep (k:ObKeep H₀ H₀' G H G' H' ow ow' i) {m:Bool} {fs:List (Nat×Fd)} (h:ObjAt K H₀ G H ow i m C p fs):ObjAt K H₀' G' H' ow' i m C p fs:=h.imp (fun z=>⟨z.1,z.2.keep k⟩) fun z=>⟨z.1,z.2.keep k⟩
theorem ObKeep.up (u:Up G H G' H'):ObKeep H₀ H₀ G H G' H' ow ow i:=by
 have gn:∀ a o,H a=some o->G a=none->G' a=none:=fun a o e n=>by
  cases q:G' a with
  | none=>rfl
  | some o'=>
   rcases u.fr a o' q with z|z
   ·rw [n] at z;cases z
   ·rw [e] at z;cases z
 exact ⟨fun a t o _ e=>u.hh a o e,u.gg,fun a t o _ e n=>gn a o e n,fun a t o e _=>e,fun a o _ _ n=>n⟩
end
theorem ObjAt.rd {K:PySem.W.Frag} {H₀:Hp} {ow:jg} {m:Bool} {fs:List (Nat×Fd)} (h:ObjAt K H₀ G H ow i m C p fs):ObjAt K (fun _=>none) G H ow i m C p fs:=
 h.keep ⟨fun _ _ _ _ e=>e,.refl _,fun _ _ _ _ _ n=>n,fun _ _ _ e _=>e,fun _ _ _ _ _=>rfl⟩
structure StE (K:PySem.W.Frag) (G H:Hp) (σ:St) (ρ:Ev):Prop where
 sub:Same G H
 len:σ.length=ρ.length
 val:∀ (i:Nat) d,ρ[i]?=some (some (.val d))->∃ v,σ[i]?=some (some v)/\Rep K G v d
 obs:∀ (i:Nat) m C p fs,ρ[i]?=some (some (.obj m C p fs))->σ[i]?=some (some (.ref p))/\∃ ow,ObjAt K (fun _=>none) G H ow i m C p fs
theorem StE.up {K:PySem.W.Frag} {G':Hp} {ρ:Ev} (s:StE K G H σ ρ) (u:Up G H G' H'):StE K G' H' σ ρ:=
 ⟨u.sub,s.len,fun i d e=>let ⟨v,h1,h2⟩:=s.val i d e;⟨v,h1,h2.mono u.gg⟩,fun i m C p fs e=>let ⟨h1,ow,h2⟩:=s.obs i m C p fs e;⟨h1,ow,h2.keep (.up u)⟩⟩
noncomputable def C9 (P:Program) (w:World) (outer:List Env) (H:Hp) (s:Shared) (a C:Addr) (H':Hp) (s':Shared):Prop:=
 s'.os=s.os/\AllBare s'.gens/\Un (frs outer) [] H H' s.heap s'.heap/\HOk P w H' s'.heap/\H' a=none/\
 ∃ (B:Heap) (a0:Value),Heap.FlyingW B outer a (.ref C) a0 s'.heap/\∀ b o,b ∉ frs outer->((∃ o0,s.heap.get? b=some o0)\/∃ u,H' b=some u)->s'.heap.get? b=some o->B.get? b=some o
noncomputable def CXo (P:Program) (w:World):CXT:=fun outer H s E e s'=>∃ a C H',e=.ref a/\C9 P w outer H s a C H' s'/\E (.ref C) none H'
noncomputable def Ly (X:Cx) (pins:List (Addr×Obj)) (b:Addr):Prop:=
 (b∈X.ex\/X.s₀.heap.objs.size<=b)/\b≠X.env.locals/\(∀ x c,X.env.cells.lookup x=some c->c≠b)/\∀ p∈X.pn++pins,p.1≠b
noncomputable def B2 (X:Cx) (pins:List (Addr×Obj)) (L:Addr) (H:Hp) (s:Shared) (a C:Addr) (H':Hp) (s':Shared):Prop:=
 s'.os=s.os/\AllBare s'.gens/\(∃ ch,(∀ b∈ch,Ly X pins b)/\Un (frs X.stack) ch H H' s.heap s'.heap)/\HOk X.prog X.w H' s'.heap/\H' a=none/\s.heap.get? a=none/\
 ∃ (B:Heap) (a0:Value),Heap.HeldW B X.stack a (.ref C) a0 L s'.heap/\∀ b o,b ∉ frs X.stack->((∃ o0,s.heap.get? b=some o0)\/∃ u,H' b=some u)->s'.heap.get? b=some o->B.get? b=some o
noncomputable def Ki (X:Cx) (σ:St) (G₁ H₁:Hp) (C:Addr) (e:Value) (s':Shared):Prop:=
 ∃ pins s₁ a,e=.ref a/\Inv X pins σ H₁ s₁/\
  ((∃ h' vs,Heap.MadeExcOf s₁.heap h' a (.ref C) vs/\s'={ s₁ with heap:=h' })\/(∃ G' H',C9 X.prog X.w X.stack H₁ s₁ a C H' s'/\Up G₁ H₁ G' H')\/∃ G' H' L,X.env.frame=some L/\B2 X pins L H₁ s₁ a C H' s'/\Up G₁ H₁ G' H')
noncomputable def Fly (X:Cx) (σ:St) (G H:Hp) (C:Addr) (e:Value) (s':Shared):Prop:=∃ G₁ H₁,Up G H G₁ H₁/\Ki X σ G₁ H₁ C e s'
theorem Fly.up {G1 H1:Hp} {e:Value} (u:Up G H G1 H1) (f:Fly X σ G1 H1 C e s'):Fly X σ G H C e s':=
 let ⟨G2,H2,v,q⟩:=f;⟨G2,H2,u.trans v,q⟩
section
variable {α β:Type}
noncomputable def Fin (G H:Hp) (rep:Hp->β->α->Prop) (Q:β->Hp->Prop):α->Prop:=fun d=>∀ v G' H',Up G H G' H'->rep G' v d->Q v H'
noncomputable def Exx (X:Cx) (σ:St) (G H:Hp):Addr->Prop:=fun C=>∀ e s',Fly X σ G H C e s'->X.xe e s'
theorem Fin.up {G1 H1:Hp} {rep:Hp->β->α->Prop} {Q:β->Hp->Prop} {d:α} (u:Up G H G1 H1) (h:Fin G H rep Q d):Fin G1 H1 rep Q d:=fun v G' H' u' r=>h v G' H' (u.trans u') r
theorem Exx.up {G1 H1:Hp} (u:Up G H G1 H1) (h:Exx X σ G H C):Exx X σ G1 H1 C:=fun e s' f=>h e s' (f.up u)
theorem oH {G1 H1:Hp} {rep:Hp->β->α->Prop} {Q:β->Hp->Prop} {m:R α} (u:Up G H G1 H1) (h:m.post (Fin G H rep Q) (Exx X σ G H)):m.post (Fin G1 H1 rep Q) (Exx X σ G1 H1):=
 h.mono (fun _=>Fin.up u) fun _=>Exx.up u
noncomputable def tG (X:Cx) (rep:Hp->β->α->Prop) (g:Ev->R α):St->Hp->(β->Hp->Prop)->Prop:=fun σ H Q=>∃ G ρ,StE X.K G H σ ρ/\(g ρ).post (Fin G H rep Q) (Exx X σ G H)
theorem tG.intro {γ δ:Type} {ρ:Ev} {rep:Hp->β->α->Prop} {rep':Hp->δ->γ->Prop} {g:Ev->R α} {k:α->R γ} {Q:β->Hp->Prop} {Q':δ->Hp->Prop} (st:StE X.K G H σ ρ)
 (h:(g ρ>>=k).post (Fin G H rep' Q') (Exx X σ G H)) (hk:∀ a,∀ v G1 H1,Up G H G1 H1->StE X.K G1 H1 σ ρ->rep G1 v a->(k a).post (Fin G1 H1 rep' Q') (Exx X σ G1 H1)->Q v H1):tG X rep g σ H Q:=by
 refine ⟨G,ρ,st,?_⟩
 cases e:g ρ with
 | ok a=>rw [e] at h;exact fun v G' H' u r=>hk a v G' H' u (st.up u) r (oH u h)
 | ex C=>rw [e] at h;exact h
 | no=>rw [e] at h;exact h
theorem tG.last {ρ:Ev} {rep:Hp->β->α->Prop} {g:Ev->R α} {Q:β->Hp->Prop} (st:StE X.K G H σ ρ) (h:(g ρ).post (Fin G H rep Q) (Exx X σ G H)):tG X rep g σ H Q:=⟨G,ρ,st,h⟩
end
noncomputable abbrev tF (X:Cx) (g:Ev->R D):TE:=tG X (Rep X.K) g
noncomputable abbrev tTF (X:Cx) (g:Ev->R Bool):TT:=tG X (fun _ b c=>b=c) g
noncomputable abbrev tAF (X:Cx) (g:Ev->R (List D)):TA:=tG X (Reps X.K) g
noncomputable def PF (X:Cx) (e:Expr) (g:Ev->R D):Prop:=PE X e (tF X g)
noncomputable def PB (X:Cx) (e:Expr) (g:Ev->R Bool):Prop:=PT X e (tTF X g)
noncomputable def PBW (X:Cx) (e:Expr) (g:Ev->R Bool):Prop:=PW X e (tTF X g)
noncomputable def PFA (X:Cx) (es:List Expr) (g:Ev->R (List D)):Prop:=PA X es (tAF X g)
end L2
variable {g gr aA bB bj aP aN aX bH dE bM aD aR bw ah:List L2.D->L2.R L2.D} {d:L2.D} {ds:List L2.D} {ow:L2.jg} {ρ:L2.Ev} {gb ge:L2.Ev->L2.R L2.D} {gl gi:L2.Ev->L2.R (List L2.D)} {asg:L2.D->L2.Ev->L2.R L2.Ev} {gs:List (L2.Ev->L2.R L2.D)} {fs':List (Nat×L2.Fd)} {kv:List (Nat×L2.D)}
namespace L2
open PySem PySem.Spec PyProof.Rows
theorem rdV.ok {P:D->Prop} {E:Addr->Prop} (h:(rdV ρ i).post P E):∃ d,ρ[i]?=some (some (.val d))/\P d:=by
 unfold rdV at h
 split at h
 ·rename_i d e;exact ⟨d,e,h⟩
 ·exact h.elim
section
variable {e a b c:Expr} {ga gc:Ev->R D}
theorem BZ (i:Nat) (hN:X.N[i]?=some x:=by rfl) (hv:Vis X.env.scope x:=by first|exact Or.inl rfl|exact Or.inr (Or.inl rfl)|exact Or.inr (Or.inr rfl)) (hd:(x==("__debug__":Str))=false:=by decide)
 (hcd:(x==("__classdict__":Str))=false:=by decide):PF X (.Name x pos) (fun ρ=>rdV ρ i):=by
 intro pins s σ H Q I h
 obtain ⟨G,ρ,st,h⟩:=h
 refine dh hN hv hd hcd pins s σ H Q I ?_
 obtain ⟨d,e,q⟩:=rdV.ok h
 obtain ⟨v,e',r⟩:=st.val i d e
 exact ⟨v,e',q v G H (.refl st.sub) r⟩
theorem gY (h:PE X e (tC v)) (hr:∀ K G,Rep K G v d):PF X e (fun _=>.ok d):=by
 intro pins s σ H Q I q
 obtain ⟨G,ρ,st,q⟩:=q
 exact h pins s σ H Q I (q v G H (.refl st.sub) (hr _ _))
theorem ak {i:Int}:PF X (.Constant (.int i) j pos) (fun _=>.ok (.int i)):=gY Gi fun _ _=>.int i
theorem jJ {k:Bool}:PF X (.Constant (.bool k) j pos) (fun _=>.ok (.bl k)):=gY JQ fun _ _=>.bl k
theorem tH:PF X (.Constant .none j pos) (fun _=>.ok .non):=gY GI fun _ _=>.non
theorem bO {l:List Nat} (hl:x.cps.toList=l:=by rfl) (hz:l.length<=1000:=by decide):PF X (.Constant (.str x) j pos) (fun _=>.ok (.str l)):=
 gY FU fun _ _=>.strL hl (Nat.le_trans hz (by decide))
theorem eD {i:Int} {t:Tok} (hg:Gl X x) (hm:X.mg x=some (.int i t)) (hd:(x==("__debug__":Str))=false:=by decide):PF X (.Name x pos) (fun _=>.ok (.int i)):=
 gY (ou (v:=.int i) hg hm ⟨t,rfl⟩ hd) fun _ _=>.int i
noncomputable def ROk (K:PySem.W.Frag) (r:R2) (f:D->D->Option D):Prop:=∀ (G H:Hp) (x y:V) (dx dy d:D) (Q:VK),Same G H->Rep K G x dx->Rep K G y dy->f dx dy=some d->Fin G H (Rep K) Q d->r x y H Q
noncomputable def g2 (f:D->D->Option D) (ga gb:Ev->R D):Ev->R D:=fun ρ=>ga ρ>>=fun x=>gb ρ>>=fun y=>ofO (f x y)
theorem Bl {r:R2} {f:D->D->Option D} (hf:ROk X.K r f) {Q:VK} (h:tF X (g2 f ga gb) σ H Q):tOp r (tF X ga) (tF X gb) σ H Q:=by
 obtain ⟨G,ρ,st,h⟩:=h
 refine tG.intro st h fun x v G1 H1 u1 st1 r1 h1=>?_
 refine tG.intro st1 h1 fun y w G2 H2 u2 st2 r2 h2=>?_
 obtain ⟨d,e,q⟩:=ofO.ok h2
 exact hf G2 H2 v w x y d Q st2.sub (r1.mono u2.gg) r2 e q
theorem qB {op:Operator} {r:R2} {f:D->D->Option D} (ho:OpR X (binaryOp op) r) (hf:ROk X.K r f) (ha:PF X a ga) (hb:PF X b gb):PF X (.BinOp a op b pos) (g2 f ga gb):=
 fun pins s σ H Q I h=>Jl ho ha hb pins s σ H Q I (Bl hf h)
theorem BK {op:CmpOp} {r:R2} {f:D->D->Option D} (ho:OpR X (compareOp op) r) (hf:ROk X.K r f) (ha:PF X a ga) (hb:PF X b gb) (hm:behindInMarks op b=false):PF X (.Compare a [op] [b] pos) (g2 f ga gb):=
 fun pins s σ H Q I h=>C2 ho ha hb hm pins s σ H Q I (Bl hf h)
noncomputable def g3 (f f':D->D->Option D) (ga gb gc:Ev->R D):Ev->R D:=fun ρ=>ga ρ>>=fun x=>gb ρ>>=fun y=>ofO (f x y)>>=fun z=>match z with
 | .bl true=>gc ρ>>=fun w=>ofO (f' y w)
 | .bl false=>.ok (.bl false)
 | _=>.no
theorem AN {op op':CmpOp} {r r':R2} {f f':D->D->Option D} (ho:OpR X (compareOp op) r) (ho':OpR X (compareOp op') r') (hf:ROk X.K r f) (hf':ROk X.K r' f') (ha:PF X a ga) (hb:PF X b gb) (hc:PF X c gc)
 (hm:lastMarks [op,op'] [b,c]=false:=by with_unfolding_all rfl):PF X (.Compare a [op,op'] [b,c] pos) (g3 f f' ga gb gc):=by
 intro pins s σ H Q I h
 refine Ak ho ho' ha hb hc hm pins s σ H Q I ?_
 obtain ⟨G,ρ,st,h⟩:=h
 refine tG.intro st h fun x v G1 H1 u1 st1 r1 h1=>?_
 refine tG.intro st1 h1 fun y w G2 H2 u2 st2 r2 h2=>?_
 cases e:f x y with
 | none=>rw [e] at h2;exact h2.elim
 | some d=>
  rw [e] at h2
  refine hf G2 H2 v w x y d _ st2.sub (r1.mono u2.gg) r2 e fun z G3 H3 u3 r3=>?_
  have h3:=oH u3 h2
  have st3:=st2.up u3
  cases r3 with
  | bl k=>
   refine ⟨k,rfl,?_⟩
   cases k with
   | false=>rw [if_neg Bool.false_ne_true];exact h3 _ G3 H3 (.refl st3.sub) (.bl false)
   | true=>
    rw [if_pos rfl]
    refine tG.intro st3 (show (gc ρ>>=fun w=>ofO (f' y w)).post _ _ from h3) fun q vq G4 H4 u4 st4 r4 h4=>?_
    obtain ⟨d,e',q'⟩:=ofO.ok h4
    exact hf' G4 H4 w vq y q d Q st4.sub ((r2.mono u3.gg).mono u4.gg) r4 e' q'
  | _=>exact h3.elim
end
section
noncomputable def bX:D->D->Option D
 | .int i,.int j=>some (.int (i+j))
 | .str x,.str y=>if x.length+y.length<=sizeLine then some (.str (x++y)) else none
 | .lst false xs,.lst false ys=>if xs.length+ys.length<=sizeLine then some (.lst false (xs++ys)) else none
 | .tup xs,.tup ys=>if xs.length+ys.length<=sizeLine then some (.tup (xs++ys)) else none
 | _,_=>none
noncomputable def BH (K:PySem.W.Frag):R2:=fun x y H Q=>∃ a b xs ys,x=.ref a/\y=.ref b/\SqT K H a xs/\SqT K H b ys/\xs.length+ys.length<=sizeLine/\
 (xs=[]->Q (.ref b) H)/\(xs≠[]->ys=[]->Q (.ref a) H)/\(xs≠[]->ys≠[]->∀ p,H p=none->Q (.ref p) (upd H p (.tup (xs++ys))))
theorem Be:OpR X (binaryOp .Add) (BH X.K):=by
 intro pins s σ H x y v u Q I rx ry h
 obtain ⟨a,b,xs,ys,rfl,rfl,ha,hb,hz,q0,q1,q2⟩:=h
 by_cases hx:xs=[]
 ·cases rx
  cases ry
  obtain ⟨its,r1,p1,_⟩:=I.tuple ha
  obtain ⟨its2,r2,p2,_⟩:=I.tuple hb
  have hi:its=[]:=r1.nil_iff.mpr hx
  obtain ⟨⟨cls,dd,data,sl⟩,ho,hc,n,hd⟩:=id p1
  obtain ⟨⟨cls2,dd2,data2,sl2⟩,ho2,hc2,n2,hd2⟩:=id p2
  simp only at hc hd hc2 hd2
  subst hc hd hc2 hd2
  exact concat_meets ⟨_,ho,rfl⟩ ⟨_,ho2,rfl⟩ noFill_tuple_add seq_tuple_add PySem.F.slot_tuple_add PySem.F.entry_tuple_add (PySem.F.args_tuple_add_2 _ _)
   (tuple_addW0 a b its.toArray its2.toArray n n2 dd dd2 sl sl2 (by simp [hi])) ⟨ho,ho2,.ref b,H,I,rfl,q0 hx⟩
 ·exact Cv pins s σ H _ _ v u Q I rx ry ⟨a,b,xs,ys,rfl,rfl,ha,hb,hx,hz,q1 hx,q2 hx⟩
noncomputable def Gj (K:PySem.W.Frag):R2:=fun x y H Q=>(rI0 fun i j=>.int (i+j)) x y H Q\/(∃ i j,x=.str i/\y=.str j/\i.length+j.length<=sizeLine/\Q (.str (i++j)) H)\/Kb x y H Q\/BH K x y H Q
theorem CJ:OpR X (binaryOp .Add) (Gj X.K):=op_add.or (op_add_str.or (op_cat.or Be))
theorem Str.app_list (x y:Str):(x++y).cps.toList=x.cps.toList++y.cps.toList:=by
 show (x.cps++y.cps).toList=_
 simp
theorem Str.len_list (x:Str):x.cps.toList.length=x.length:=by simp [Str.length]
theorem GQ (K:PySem.W.Frag):ROk K (Gj K) bX:=by
 intro G H x y dx dy d Q s rx ry e q
 unfold bX at e
 split at e
 ·cases e
  exact .inl ⟨_,_,rx.int_inv,ry.int_inv,q _ G H (.refl s) (.int _)⟩
 ·split at e
  ·rename_i hz
   cases e
   obtain ⟨i,rfl,ei,hi⟩:=rx.str_inv
   obtain ⟨j,rfl,ej,hj⟩:=ry.str_inv
   subst ei ej
   rw [Str.len_list,Str.len_list] at hz
   exact .inr (.inl ⟨i,j,rfl,rfl,hz,q _ G H (.refl s) (.strL (Str.app_list i j) (by rw [List.length_append,Str.len_list,Str.len_list];exact hz))⟩)
  ·cases e
 ·split at e
  ·rename_i hz
   cases e
   obtain ⟨a,vs,rfl,ha,ra⟩:=rx.lst_inv
   obtain ⟨b,ws,rfl,hb,rb⟩:=ry.lst_inv
   refine .inr (.inr (.inl ⟨a,b,vs,ws,rfl,rfl,s _ _ ha,s _ _ hb,by rw [ra.length,rb.length];exact hz,fun p hp=>q _ _ _ (.new s hp) (.lst aM ?_)⟩))
   exact (ra.append rb).mono (.into (s.free hp))
  ·cases e
 ·split at e
  ·rename_i hz
   cases e
   obtain ⟨a,vs,rfl,ha,ra⟩:=rx.tup_inv
   obtain ⟨b,ws,rfl,hb,rb⟩:=ry.tup_inv
   refine .inr (.inr (.inr ⟨a,b,vs,ws,rfl,rfl,ha.mono s,hb.mono s,by rw [ra.length,rb.length];exact hz,fun z=>?_,fun _ z=>?_,fun _ _ p hp=>?_⟩))
   ·subst z
    cases ra
    exact q _ G H (.refl s) (.tup hb rb)
   ·subst z
    cases rb
    rw [List.append_nil] at q
    exact q _ G H (.refl s) (.tup ha ra)
   ·exact q _ _ _ (.new s hp) (.tup (.of aM) ((ra.append rb).mono (.into (s.free hp))))
  ·cases e
 ·cases e
theorem aV {a b:Expr} {ga:Ev->R D} (ha:PF X a ga) (hb:PF X b gb):PF X (.BinOp a .Add b pos) (g2 bX ga gb):=qB CJ (GQ _) ha hb
noncomputable def wf:D->D->Option D
 | .int i,.int j=>some (.int (i - j))
 | _,_=>none
theorem mJ {a b:Expr} {ga:Ev->R D} (ha:PF X a ga) (hb:PF X b gb):PF X (.BinOp a .Sub b pos) (g2 wf ga gb):=qB EI (by
 intro G H x y dx dy d Q s rx ry e q
 unfold wf at e
 split at e
 ·cases e
  exact ⟨_,_,rx.int_inv,ry.int_inv,q _ G H (.refl s) (.int _)⟩
 ·cases e) ha hb
noncomputable def AC:D->D->Option D
 | .int i,.int j=>if 0<j/\j<1073741824 then some (.int (i / j)) else none
 | _,_=>none
theorem CO {a b:Expr} {ga:Ev->R D} (ha:PF X a ga) (hb:PF X b gb):PF X (.BinOp a .FloorDiv b pos) (g2 AC ga gb):=qB DQ (by
 intro G H x y dx dy d Q s rx ry e q
 unfold AC at e
 split at e
 ·split at e
  ·rename_i hc
   cases e
   exact ⟨_,_,rx.int_inv,ry.int_inv,hc,q _ G H (.refl s) (.int _)⟩
  ·cases e
 ·cases e) ha hb
noncomputable def wJ:D->D->Option D
 | .int i,.int j=>if 0<j then some (.int (i % j)) else none
 | _,_=>none
theorem ul {a b:Expr} {ga:Ev->R D} (ha:PF X a ga) (hb:PF X b gb):PF X (.BinOp a .Mod b pos) (g2 wJ ga gb):=qB Fu (by
 intro G H x y dx dy d Q s rx ry e q
 unfold wJ at e
 split at e
 ·split at e
  ·rename_i hc
   cases e
   exact ⟨_,_,rx.int_inv,ry.int_inv,hc,q _ G H (.refl s) (.int _)⟩
  ·cases e
 ·cases e) ha hb
end
section
variable {a b c e:Expr} {ga gc:Ev->R D}
noncomputable def leD:D->D->Option D
 | .int i,.int j=>some (.bl (decide (i<=j)))
 | .str x,.str y=>some (.bl (!decide (y<x)))
 | _,_=>none
noncomputable def ltD:D->D->Option D
 | .int i,.int j=>some (.bl (decide (i<j)))
 | .str x,.str y=>some (.bl (decide (x<y)))
 | _,_=>none
noncomputable def gtD:D->D->Option D
 | .int i,.int j=>some (.bl (decide (j<i)))
 | _,_=>none
noncomputable def geD:D->D->Option D
 | .int i,.int j=>some (.bl (decide (j<=i)))
 | _,_=>none
theorem wl:OpR X (compareOp .LtE) (fun x y H Q=>∃ i j:Str,x=.str i/\y=.str j/\Q (.bl (!decide (j.cps.toList<i.cps.toList))) H):=by
 intro pins s σ H x y v u Q I rx ry h
 obtain ⟨i,j,rfl,rfl,q⟩:=h
 obtain ⟨t,rfl⟩:=rx
 obtain ⟨t',rfl⟩:=ry
 exact PySem.P.le_str (xB I q rfl)
theorem uW (K:PySem.W.Frag):ROk K (fun x y H Q=>(rI0 fun i j=>.bl (decide (i<=j))) x y H Q\/∃ i j:Str,x=.str i/\y=.str j/\Q (.bl (!decide (j.cps.toList<i.cps.toList))) H) leD:=by
 intro G H x y dx dy d Q s rx ry e q
 unfold leD at e
 split at e
 ·cases e
  exact .inl ⟨_,_,rx.int_inv,ry.int_inv,q _ G H (.refl s) (.bl _)⟩
 ·cases e
  obtain ⟨i,rfl,ei,hi⟩:=rx.str_inv
  obtain ⟨j,rfl,ej,hj⟩:=ry.str_inv
  subst ei ej
  exact .inr ⟨i,j,rfl,rfl,q _ G H (.refl s) (.bl _)⟩
 ·cases e
theorem Je (K:PySem.W.Frag):ROk K (fun x y H Q=>(rI0 fun i j=>.bl (decide (i<j))) x y H Q\/∃ i j:Str,x=.str i/\y=.str j/\Q (.bl (decide (i.cps.toList<j.cps.toList))) H) ltD:=by
 intro G H x y dx dy d Q s rx ry e q
 unfold ltD at e
 split at e
 ·cases e
  exact .inl ⟨_,_,rx.int_inv,ry.int_inv,q _ G H (.refl s) (.bl _)⟩
 ·cases e
  obtain ⟨i,rfl,ei,hi⟩:=rx.str_inv
  obtain ⟨j,rfl,ej,hj⟩:=ry.str_inv
  subst ei ej
  exact .inr ⟨i,j,rfl,rfl,q _ G H (.refl s) (.bl _)⟩
 ·cases e
theorem Ip (K:PySem.W.Frag):ROk K (rI0 fun i j=>.bl (decide (j<i))) gtD:=by
 intro G H x y dx dy d Q s rx ry e q
 unfold gtD at e
 split at e
 ·cases e
  exact ⟨_,_,rx.int_inv,ry.int_inv,q _ G H (.refl s) (.bl _)⟩
 ·cases e
theorem mH:OpR X (compareOp .LtE) (fun x y H Q=>(rI0 fun i j=>.bl (decide (i<=j))) x y H Q\/∃ i j:Str,x=.str i/\y=.str j/\Q (.bl (!decide (j.cps.toList<i.cps.toList))) H):=op_le.or wl
theorem FP:OpR X (compareOp .Lt) (fun x y H Q=>(rI0 fun i j=>.bl (decide (i<j))) x y H Q\/∃ i j:Str,x=.str i/\y=.str j/\Q (.bl (decide (i.cps.toList<j.cps.toList))) H):=op_lt.or yD
theorem JN (ha:PF X a ga) (hb:PF X b gb):PF X (.Compare a [.LtE] [b] pos) (g2 leD ga gb):=BK mH (uW _) ha hb (jA _)
theorem sP (ha:PF X a ga) (hb:PF X b gb) (hc:PF X c gc) (hm:lastMarks [.LtE,.LtE] [b,c]=false:=by with_unfolding_all rfl):PF X (.Compare a [.LtE,.LtE] [b,c] pos) (g3 leD leD ga gb gc):=AN mH mH (uW _) (uW _) ha hb hc hm
end
noncomputable def eqZ (f:D->D->Option Bool):List D->List D->Option (List Bool)
 | x::xs,y::ys=>(f x y).bind fun b=>(eqZ f xs ys).map (b::·)
 | _,_=>some []
noncomputable def eqD:Nat->D->D->Option Bool
 | 0,_,_=>none
 | n+1,a,b=>match a,b with
  | .non,.non=>some true
  | .bl x,.bl y=>some (x==y)
  | .int i,.int j=>some (i==j)
  | .str x,.str y=>some (x==y)
  | .bl x,.int j=>some ((if x then 1 else 0)==j)
  | .int i,.bl y=>some (i==(if y then 1 else 0))
  | .lst _ xs,.lst _ ys=>if xs.length=ys.length then (eqZ (eqD n) xs ys).map fun bs=>bs.all id else some false
  | .tup xs,.tup ys=>(eqZ (eqD n) xs ys).map fun bs=>bs.all id && xs.length==ys.length
  | .exc _,_=>none
  | .dct _ _,_=>none
  | _,.exc _=>none
  | _,.dct _ _=>none
  | _,_=>some false
theorem eqZ.get {f:D->D->Option Bool}:∀ {xs ys:List D} {bs:List Bool},eqZ f xs ys=some bs->bs.length=min xs.length ys.length/\∀ (j:Nat) (x y:D),xs[j]?=some x->ys[j]?=some y->∃ b,bs[j]?=some b/\f x y=some b
 | [],_,_,e=>by simp [eqZ] at e;subst e;exact ⟨by simp,fun j x y h=>by simp at h⟩
 | _::_,[],_,e=>by simp [eqZ] at e;subst e;exact ⟨by simp,fun j x y _ h=>by simp at h⟩
 | x::xs,y::ys,bs,e=>by
  unfold eqZ at e
  cases e1:f x y with
  | none=>rw [e1] at e;cases e
  | some b=>
   rw [e1] at e
   cases e2:eqZ f xs ys with
   | none=>rw [e2] at e;cases e
   | some cs=>
    rw [e2] at e
    cases e
    obtain ⟨h1,h2⟩:=eqZ.get e2
    refine ⟨by simp [h1],fun j=>?_⟩
    cases j with
    | zero=>intro x' y' hx hy;simp at hx hy;subst hx hy;exact ⟨b,rfl,e1⟩
    | succ j=>intro x' y' hx hy;exact h2 j x' y' (by simpa using hx) (by simpa using hy)
theorem kG {bs:List Bool} {n:Nat} (h:bs.length=n):(List.range n).all (fun j=>bs.getD j true)=bs.all id:=by
 subst h
 rw [Bool.eq_iff_iff,List.all_eq_true,List.all_eq_true]
 constructor
 ·intro h b hb
  obtain ⟨i,hi,rfl⟩:=List.mem_iff_getElem.mp hb
  have:=h i (by simpa using hi)
  simpa [List.getD_eq_getElem?_getD,hi] using this
 ·intro h j hj
  have hj':j<bs.length:=by simpa using hj
  have:=h bs[j] (List.getElem_mem hj')
  simpa [List.getD_eq_getElem?_getD,hj'] using this
theorem dq:(Value.type "list":Value) ≠ .type "tuple":=by
 intro h
 injection h with h
 exact absurd h (by decide)
section
open SeqAt
theorem fE (I:Inv X pins σ H s) (sub:Same G H):∀ (n:Nat) (a b:D) (k:Bool) (x:V),eqD n a b=some k->Rep X.K G x a->Rep X.K G x b->k=true:=by
 intro n
 induction n with
 | zero=>intro a b k x e;cases e
 | succ n ih=>
  have sq:∀ (vs:List V) (xs ys:List D),Reps X.K G vs xs->Reps X.K G vs ys->∀ bs,eqZ (eqD n) xs ys=some bs->bs.all id=true:=by
   intro vs
   induction vs with
   | nil=>intro xs ys h1 h2 bs e;cases h1;cases h2;simp [eqZ] at e;subst e;rfl
   | cons v vs ihv=>
    intro xs ys h1 h2 bs e
    cases h1 with
    | cons r1 t1=>
     cases h2 with
     | cons r2 t2=>
      unfold eqZ at e
      rename_i d1 ds1 d2 ds2
      cases e1:eqD n d1 d2 with
      | none=>rw [e1] at e;cases e
      | some b=>
       rw [e1] at e
       cases e2:eqZ (eqD n) ds1 ds2 with
       | none=>rw [e2] at e;cases e
       | some cs=>
        rw [e2] at e
        cases e
        rw [List.all_cons,ih _ _ _ _ e1 r1 r2,ihv _ _ t1 t2 _ e2]
        rfl
  intro a b k x e ra rb
  cases ra with
  | non=>cases rb;simp [eqD] at e;exact e
  | bl y=>cases rb;simp [eqD] at e;exact e
  | int i=>cases rb;simp [eqD] at e;exact e
  | str y h=>
   cases rb with
   | str z h'=>simp [eqD] at e;exact e
  | tup h r=>
   cases rb with
   | tup h' r'=>
    have q:=I.tuple_inj (h.mono sub) (h'.mono sub)
    subst q
    simp only [eqD] at e
    rename_i ds es
    cases e2:eqZ (eqD n) ds es with
    | none=>rw [e2] at e;cases e
    | some cs=>
     rw [e2] at e
     have this:(cs.all id && ds.length==es.length)=k:=Option.some.inj e
     rw [sq _ _ _ r r' _ e2,Bool.true_and] at this
     rw [<- this,<- r.length,<- r'.length]
     simp
   | lst h' r'=>
    obtain ⟨its,_,⟨o,e1,c1,_⟩,_⟩:=I.tuple (h.mono sub)
    obtain ⟨_,its',n',_,e2⟩:=I.hok _ _ (sub _ _ h')
    rw [e1] at e2;cases e2;exact absurd c1 dq
   | fls h' r'=>
    obtain ⟨its,_,⟨o,e1,c1,_⟩,_⟩:=I.tuple (h.mono sub)
    obtain ⟨its',_,⟨o',n',e2,c2,_⟩,_⟩:=I.list (h'.mono sub)
    rw [e1] at e2;cases e2;rw [c1] at c2;exact absurd c2.symm dq
   | exc h'=>simp [eqD] at e
   | dct _ _ _=>simp [eqD] at e
  | lst h r=>
   have hl:SqL X.K G _ _:=SqL.of h
   cases rb with
   | tup h' r'=>
    obtain ⟨its,_,⟨o,e1,c1,_⟩,_⟩:=I.tuple (h'.mono sub)
    obtain ⟨_,its',n',_,e2⟩:=I.hok _ _ (sub _ _ h)
    rw [e1] at e2;cases e2;exact absurd c1 dq
   | lst h' r'=>
    rw [h] at h';cases h'
    simp only [eqD] at e
    rw [if_pos (by rw [<- r.length,<- r'.length])] at e
    rename_i ds es
    cases e2:eqZ (eqD n) ds es with
    | none=>rw [e2] at e;cases e
    | some cs=>rw [e2] at e;have:=Option.some.inj e;rw [<- this];exact sq _ _ _ r r' _ e2
   | fls h' r'=>
    have q:=I.list_inj (hl.mono sub) (h'.mono sub)
    subst q
    simp only [eqD] at e
    rw [if_pos (by rw [<- r.length,<- r'.length])] at e
    rename_i ds es
    cases e2:eqZ (eqD n) ds es with
    | none=>rw [e2] at e;cases e
    | some cs=>rw [e2] at e;have:=Option.some.inj e;rw [<- this];exact sq _ _ _ r r' _ e2
   | exc h'=>simp [eqD] at e
   | dct _ _ _=>simp [eqD] at e
  | fls h r=>
   cases rb with
   | tup h' r'=>
    obtain ⟨its,_,⟨o,e1,c1,_⟩,_⟩:=I.tuple (h'.mono sub)
    obtain ⟨its',_,⟨o',n',e2,c2,_⟩,_⟩:=I.list (h.mono sub)
    rw [e1] at e2;cases e2;rw [c1] at c2;exact absurd c2.symm dq
   | lst h' r'=>
    have q:=I.list_inj (h.mono sub) ((SqL.of h':SqL X.K G _ _).mono sub)
    subst q
    simp only [eqD] at e
    rw [if_pos (by rw [<- r.length,<- r'.length])] at e
    rename_i ds es
    cases e2:eqZ (eqD n) ds es with
    | none=>rw [e2] at e;cases e
    | some cs=>rw [e2] at e;have:=Option.some.inj e;rw [<- this];exact sq _ _ _ r r' _ e2
   | fls h' r'=>
    have q:=I.list_inj (h.mono sub) (h'.mono sub)
    subst q
    simp only [eqD] at e
    rw [if_pos (by rw [<- r.length,<- r'.length])] at e
    rename_i ds es
    cases e2:eqZ (eqD n) ds es with
    | none=>rw [e2] at e;cases e
    | some cs=>rw [e2] at e;have:=Option.some.inj e;rw [<- this];exact sq _ _ _ r r' _ e2
   | exc h'=>simp [eqD] at e
   | dct _ _ _=>simp [eqD] at e
  | exc h=>simp [eqD] at e
  | dct _ _ _=>simp [eqD] at e
structure Eqs (A:Around) (s:Shared) (v u:Value) (k:Bool):Prop where
 eq:EqAt A s v u k
 rc:RcAt A s v u k
 ne:RcNeAt A s v u (!k)
theorem ig {f:Bool} {x:V} (I:Inv X pins σ H s) (sub:Same G H) (r:Rep X.K G x (.lst f ds)) (ru:RelV x u):∃ a its vs,u=.ref a/\s.heap.IsList a (List.toArray its)/\Vals vs its/\Reps X.K G vs ds:=by
 obtain ⟨a,vs,rfl,h,t⟩:=r.seq_inv
 cases ru
 obtain ⟨its,rv,⟨o,n,e1,c1,_,d1⟩,_⟩:=I.list (h.mono sub)
 exact ⟨a,its,vs,rfl,⟨o,e1,c1,n,d1⟩,rv,t⟩
theorem ki {x:V} (I:Inv X pins σ H s) (sub:Same G H) (r:Rep X.K G x (.tup ds)) (ru:RelV x u):∃ a its vs,u=.ref a/\s.heap.IsTuple a (List.toArray its)/\Vals vs its/\Reps X.K G vs ds:=by
 obtain ⟨a,vs,rfl,h,t⟩:=r.tup_inv
 cases ru
 obtain ⟨its,rv,p,_⟩:=I.tuple (h.mono sub)
 exact ⟨a,its,vs,rfl,p,rv,t⟩
theorem yy (I:Inv X pins σ H s) (sub:Same G H):∀ (n:Nat) (A:Around) (a b:D) (k:Bool) (x y:V) (v u:Value),A.units+n<cLine->eqD n a b=some k->Rep X.K G x a->Rep X.K G y b->RelV x v->RelV y u->Eqs A s v u k:=by
 intro n
 induction n with
 | zero=>intro A a b k x y v u _ e;cases e
 | succ n ih=>
  have sq:∀ (A:Around) (vs ws:List V) (xs ys:List D) (is js:List Value) (bs:List Bool),A.units+(n+1)<cLine->Reps X.K G vs xs->Reps X.K G ws ys->Vals vs is->Vals ws js->eqZ (eqD n) xs ys=some bs->
    bs.length=min is.length js.length/\∀ j (h1:j<is.toArray.size) (h2:j<js.toArray.size),EqAt A.in1 s is.toArray[j] js.toArray[j] (bs.getD j true):=by
   intro A vs ws xs ys is js bs hA r1 r2 v1 v2 e
   obtain ⟨h1,h2⟩:=eqZ.get e
   refine ⟨by rw [h1,<- r1.length,<- r2.length,v1.length,v2.length],fun j q1 q2=>?_⟩
   rw [List.size_toArray] at q1 q2
   have p1:j<xs.length:=by rw [<- r1.length,v1.length];exact q1
   have p2:j<ys.length:=by rw [<- r2.length,v2.length];exact q2
   obtain ⟨b,e1,e2⟩:=h2 j xs[j] ys[j] (by simp [p1]) (by simp [p2])
   obtain ⟨x',ex,rx⟩:=r1.get (i:=j) (d:=xs[j]) (by simp [p1])
   obtain ⟨y',ey,ry⟩:=r2.get (i:=j) (d:=ys[j]) (by simp [p2])
   obtain ⟨u1,eu1,ru1⟩:=v1.get ex
   obtain ⟨u2,eu2,ru2⟩:=v2.get ey
   have g1:is.toArray[j]=u1:=by simpa [q1] using eu1
   have g2:js.toArray[j]=u2:=by simpa [q2] using eu2
   rw [List.getD_eq_getElem?_getD,e1]
   simp only [List.getElem_toArray] at g1 g2 ⊢
   rw [g1,g2]
   exact (ih A.in1 _ _ b x' y' u1 u2 (by show A.units+1+n<cLine;omega) e2 rx ry ru1 ru2).eq
  intro A a b k x y v u hA e ra rb rv ru
  have hu:A.units<cLine:=by omega
  have same:∀ c d:Addr,v=.ref c->u=.ref d->c=d->k=true:=fun c d h1 h2 h3=>by
   subst h1 h2 h3
   cases ra with
   | tup h r=>cases rv;cases rb with
    | tup h' r'=>cases ru;exact fE I sub (n+1) _ _ k _ e (.tup h r) (.tup h' r')
    | lst h' r'=>cases ru;exact fE I sub (n+1) _ _ k _ e (.tup h r) (.lst h' r')
    | fls h' r'=>cases ru;exact fE I sub (n+1) _ _ k _ e (.tup h r) (.fls h' r')
    | exc h'=>simp [eqD] at e
    | dct _ _ _=>simp [eqD] at e
    | str _ _=>obtain ⟨t,z⟩:=ru;cases z
    | int _=>obtain ⟨t,z⟩:=ru;cases z
    | non=>cases ru
    | bl _=>cases ru
   | lst h r=>cases rv;cases rb with
    | tup h' r'=>cases ru;exact fE I sub (n+1) _ _ k _ e (.lst h r) (.tup h' r')
    | lst h' r'=>cases ru;exact fE I sub (n+1) _ _ k _ e (.lst h r) (.lst h' r')
    | fls h' r'=>cases ru;exact fE I sub (n+1) _ _ k _ e (.lst h r) (.fls h' r')
    | exc h'=>simp [eqD] at e
    | dct _ _ _=>simp [eqD] at e
    | str _ _=>obtain ⟨t,z⟩:=ru;cases z
    | int _=>obtain ⟨t,z⟩:=ru;cases z
    | non=>cases ru
    | bl _=>cases ru
   | fls h r=>cases rv;cases rb with
    | tup h' r'=>cases ru;exact fE I sub (n+1) _ _ k _ e (.fls h r) (.tup h' r')
    | lst h' r'=>cases ru;exact fE I sub (n+1) _ _ k _ e (.fls h r) (.lst h' r')
    | fls h' r'=>cases ru;exact fE I sub (n+1) _ _ k _ e (.fls h r) (.fls h' r')
    | exc h'=>simp [eqD] at e
    | dct _ _ _=>simp [eqD] at e
    | str _ _=>obtain ⟨t,z⟩:=ru;cases z
    | int _=>obtain ⟨t,z⟩:=ru;cases z
    | non=>cases ru
    | bl _=>cases ru
   | exc h=>simp [eqD] at e
   | dct _ _ _=>simp [eqD] at e
   | str _ _=>obtain ⟨t,z⟩:=rv;cases z
   | int _=>obtain ⟨t,z⟩:=rv;cases z
   | non=>cases rv
   | bl _=>cases rv
  have refs:∀ c d:Addr,v=.ref c->u=.ref d->RcAt A s v u k->EqAt A s v u k:=fun c d h1 h2 h=>by
   subst h1 h2
   by_cases h3:c=d
   ·have:=same c d rfl rfl h3
    subst h3 this
    exact EqAt.same _
   ·exact EqAt.of_refs h3 h
  cases a with
  | exc C=>simp [eqD] at e
  | dct _ _=>simp [eqD] at e
  | non=>
   obtain rfl:=ra.non_inv
   cases rv
   cases b with
   | exc C=>simp [eqD] at e
   | dct _ _=>simp [eqD] at e
   | non=>obtain rfl:=rb.non_inv;cases ru;simp [eqD] at e;subst e;exact ⟨EqAt.same _,RcAt.none_none,RcNeAt.none_none⟩
   | bl z=>obtain rfl:=rb.bl_inv;cases ru;simp [eqD] at e;subst e;exact ⟨EqAt.none_bool _,RcAt.none_bool _,RcNeAt.none_bool _⟩
   | int z=>obtain rfl:=rb.int_inv;obtain ⟨t,rfl⟩:=ru;simp [eqD] at e;subst e;exact ⟨EqAt.none_int _ _,RcAt.none_int _ _,RcNeAt.none_int _ _⟩
   | str z=>obtain ⟨z,rfl,-,-⟩:=rb.str_inv;obtain ⟨t,rfl⟩:=ru;simp [eqD] at e;subst e;exact ⟨EqAt.none_str _ _,RcAt.none_str _ _,RcNeAt.none_str _ _⟩
   | tup ds=>obtain ⟨c,its,vs,rfl,p,_,_⟩:=ki I sub rb ru;simp [eqD] at e;subst e;exact ⟨EqAt.none_tuple p hu,RcAt.none_tuple p hu,RcNeAt.none_tuple p hu⟩
   | lst f ds=>obtain ⟨c,its,vs,rfl,p,_,_⟩:=ig I sub rb ru;simp [eqD] at e;subst e;exact ⟨EqAt.none_list p hu,RcAt.none_list p hu,RcNeAt.none_list p hu⟩
  | bl w=>
   obtain rfl:=ra.bl_inv
   cases rv
   cases b with
   | exc C=>simp [eqD] at e
   | dct _ _=>simp [eqD] at e
   | non=>obtain rfl:=rb.non_inv;cases ru;simp [eqD] at e;subst e;exact ⟨EqAt.bool_none _,RcAt.bool_none _,RcNeAt.bool_none _⟩
   | bl z=>obtain rfl:=rb.bl_inv;cases ru;simp only [eqD] at e;cases e;exact ⟨EqAt.bool_bool _ _,RcAt.bool_bool _ _,RcNeAt.bool_bool _ _⟩
   | int z=>obtain rfl:=rb.int_inv;obtain ⟨t,rfl⟩:=ru;simp only [eqD] at e;cases e;exact ⟨EqAt.bool_int _ _ _,RcAt.bool_int _ _ _,RcNeAt.bool_int _ _ _⟩
   | str z=>obtain ⟨z,rfl,-,-⟩:=rb.str_inv;obtain ⟨t,rfl⟩:=ru;simp [eqD] at e;subst e;exact ⟨EqAt.bool_str _ _ _,RcAt.bool_str _ _ _,RcNeAt.bool_str _ _ _⟩
   | tup ds=>obtain ⟨c,its,vs,rfl,p,_,_⟩:=ki I sub rb ru;simp [eqD] at e;subst e;exact ⟨EqAt.bool_tuple _ p hu,RcAt.bool_tuple _ p hu,RcNeAt.bool_tuple _ p hu⟩
   | lst f ds=>obtain ⟨c,its,vs,rfl,p,_,_⟩:=ig I sub rb ru;simp [eqD] at e;subst e;exact ⟨EqAt.bool_list _ p hu,RcAt.bool_list _ p hu,RcNeAt.bool_list _ p hu⟩
  | int w=>
   obtain rfl:=ra.int_inv
   obtain ⟨t0,rfl⟩:=rv
   cases b with
   | exc C=>simp [eqD] at e
   | dct _ _=>simp [eqD] at e
   | non=>obtain rfl:=rb.non_inv;cases ru;simp [eqD] at e;subst e;exact ⟨EqAt.int_none _ _,RcAt.int_none _ _,RcNeAt.int_none _ _⟩
   | bl z=>obtain rfl:=rb.bl_inv;cases ru;simp only [eqD] at e;cases e;exact ⟨EqAt.int_bool _ _ _,RcAt.int_bool _ _ _,RcNeAt.int_bool _ _ _⟩
   | int z=>obtain rfl:=rb.int_inv;obtain ⟨t,rfl⟩:=ru;simp only [eqD] at e;cases e;exact ⟨EqAt.int_int _ _ _ _,RcAt.int_int _ _ _ _,RcNeAt.int_int _ _ _ _⟩
   | str z=>obtain ⟨z,rfl,-,-⟩:=rb.str_inv;obtain ⟨t,rfl⟩:=ru;simp [eqD] at e;subst e;exact ⟨EqAt.int_str _ _ _ _,RcAt.int_str _ _ _ _,RcNeAt.int_str _ _ _ _⟩
   | tup ds=>obtain ⟨c,its,vs,rfl,p,_,_⟩:=ki I sub rb ru;simp [eqD] at e;subst e;exact ⟨EqAt.int_tuple _ _ p hu,RcAt.int_tuple _ _ p hu,RcNeAt.int_tuple _ _ p hu⟩
   | lst f ds=>obtain ⟨c,its,vs,rfl,p,_,_⟩:=ig I sub rb ru;simp [eqD] at e;subst e;exact ⟨EqAt.int_list _ _ p hu,RcAt.int_list _ _ p hu,RcNeAt.int_list _ _ p hu⟩
  | str w=>
   obtain ⟨w,rfl,ew,-⟩:=ra.str_inv
   obtain ⟨t0,rfl⟩:=rv
   cases b with
   | exc C=>simp [eqD] at e
   | dct _ _=>simp [eqD] at e
   | non=>obtain rfl:=rb.non_inv;cases ru;simp [eqD] at e;subst e;exact ⟨EqAt.str_none _ _,RcAt.str_none _ _,RcNeAt.str_none _ _⟩
   | bl z=>obtain rfl:=rb.bl_inv;cases ru;simp [eqD] at e;subst e;exact ⟨EqAt.str_bool _ _ _,RcAt.str_bool _ _ _,RcNeAt.str_bool _ _ _⟩
   | int z=>obtain rfl:=rb.int_inv;obtain ⟨t,rfl⟩:=ru;simp [eqD] at e;subst e;exact ⟨EqAt.str_int _ _ _ _,RcAt.str_int _ _ _ _,RcNeAt.str_int _ _ _ _⟩
   | str z=>
    obtain ⟨z,rfl,ez,-⟩:=rb.str_inv;obtain ⟨t,rfl⟩:=ru
    simp only [eqD] at e
    subst ew ez
    rw [str_beq] at e
    cases e
    exact ⟨EqAt.str_str _ _ _ _,RcAt.str_str _ _ _ _,RcNeAt.str_str _ _ _ _⟩
   | tup ds=>obtain ⟨c,its,vs,rfl,p,_,_⟩:=ki I sub rb ru;simp [eqD] at e;subst e;exact ⟨EqAt.str_tuple _ _ p hu,RcAt.str_tuple _ _ p hu,RcNeAt.str_tuple _ _ p hu⟩
   | lst f ds=>obtain ⟨c,its,vs,rfl,p,_,_⟩:=ig I sub rb ru;simp [eqD] at e;subst e;exact ⟨EqAt.str_list _ _ p hu,RcAt.str_list _ _ p hu,RcNeAt.str_list _ _ p hu⟩
  | tup ds1=>
   obtain ⟨c1,its1,vs1,rfl,p1,w1,q1⟩:=ki I sub ra rv
   cases b with
   | exc C=>simp [eqD] at e
   | dct _ _=>simp [eqD] at e
   | non=>obtain rfl:=rb.non_inv;cases ru;simp [eqD] at e;subst e;exact ⟨EqAt.tuple_none p1 hu,RcAt.tuple_none p1 hu,RcNeAt.tuple_none p1 hu⟩
   | bl z=>obtain rfl:=rb.bl_inv;cases ru;simp [eqD] at e;subst e;exact ⟨EqAt.tuple_bool _ p1 hu,RcAt.tuple_bool _ p1 hu,RcNeAt.tuple_bool _ p1 hu⟩
   | int z=>obtain rfl:=rb.int_inv;obtain ⟨t,rfl⟩:=ru;simp [eqD] at e;subst e;exact ⟨EqAt.tuple_int _ _ p1 hu,RcAt.tuple_int _ _ p1 hu,RcNeAt.tuple_int _ _ p1 hu⟩
   | str z=>obtain ⟨z,rfl,-,-⟩:=rb.str_inv;obtain ⟨t,rfl⟩:=ru;simp [eqD] at e;subst e;exact ⟨EqAt.tuple_str _ _ p1 hu,RcAt.tuple_str _ _ p1 hu,RcNeAt.tuple_str _ _ p1 hu⟩
   | lst f ds=>obtain ⟨c,its,vs,rfl,p,_,_⟩:=ig I sub rb ru;simp [eqD] at e;subst e;exact ⟨EqAt.tuple_list p1 p hu,RcAt.tuple_list p1 p hu,RcNeAt.tuple_list p1 p hu⟩
   | tup ds2=>
    obtain ⟨c2,its2,vs2,rfl,p2,w2,q2⟩:=ki I sub rb ru
    simp only [eqD] at e
    cases e2:eqZ (eqD n) ds1 ds2 with
    | none=>rw [e2] at e;cases e
    | some bs=>
     rw [e2] at e
     have ek:=Option.some.inj e
     obtain ⟨hl,he⟩:=sq A _ _ _ _ _ _ bs hA q1 q2 w1 w2 e2
     have e3:((List.range (min its1.toArray.size its2.toArray.size)).all (fun j=>bs.getD j true) && its1.toArray.size==its2.toArray.size)=k:=by
      rw [<- ek,List.size_toArray,List.size_toArray,kG hl,<- w1.length,<- w2.length,q1.length,q2.length]
     have hrc:RcAt A s (.ref c1) (.ref c2) k:=by rw [<- e3];exact RcAt.tuples p1 p2 hu he
     have hne:RcNeAt A s (.ref c1) (.ref c2) (!k):=by rw [<- e3];exact RcNeAt.tuples p1 p2 hu he
     exact ⟨refs _ _ rfl rfl hrc,hrc,hne⟩
  | lst f1 ds1=>
   obtain ⟨c1,its1,vs1,rfl,p1,w1,q1⟩:=ig I sub ra rv
   cases b with
   | exc C=>simp [eqD] at e
   | dct _ _=>simp [eqD] at e
   | non=>obtain rfl:=rb.non_inv;cases ru;simp [eqD] at e;subst e;exact ⟨EqAt.list_none p1 hu,RcAt.list_none p1 hu,RcNeAt.list_none p1 hu⟩
   | bl z=>obtain rfl:=rb.bl_inv;cases ru;simp [eqD] at e;subst e;exact ⟨EqAt.list_bool _ p1 hu,RcAt.list_bool _ p1 hu,RcNeAt.list_bool _ p1 hu⟩
   | int z=>obtain rfl:=rb.int_inv;obtain ⟨t,rfl⟩:=ru;simp [eqD] at e;subst e;exact ⟨EqAt.list_int _ _ p1 hu,RcAt.list_int _ _ p1 hu,RcNeAt.list_int _ _ p1 hu⟩
   | str z=>obtain ⟨z,rfl,-,-⟩:=rb.str_inv;obtain ⟨t,rfl⟩:=ru;simp [eqD] at e;subst e;exact ⟨EqAt.list_str _ _ p1 hu,RcAt.list_str _ _ p1 hu,RcNeAt.list_str _ _ p1 hu⟩
   | tup ds=>obtain ⟨c,its,vs,rfl,p,_,_⟩:=ki I sub rb ru;simp [eqD] at e;subst e;exact ⟨EqAt.list_tuple p1 p hu,RcAt.list_tuple p1 p hu,RcNeAt.list_tuple p1 p hu⟩
   | lst f2 ds2=>
    obtain ⟨c2,its2,vs2,rfl,p2,w2,q2⟩:=ig I sub rb ru
    simp only [eqD] at e
    by_cases hlen:ds1.length=ds2.length
    ·rw [if_pos hlen] at e
     cases e2:eqZ (eqD n) ds1 ds2 with
     | none=>rw [e2] at e;cases e
     | some bs=>
      rw [e2] at e
      have ek:=Option.some.inj e
      obtain ⟨hl,he⟩:=sq A _ _ _ _ _ _ bs hA q1 q2 w1 w2 e2
      have hz:its1.toArray.size=its2.toArray.size:=by rw [List.size_toArray,List.size_toArray,<- w1.length,<- w2.length,q1.length,q2.length];exact hlen
      have e3:(List.range its1.toArray.size).all (fun j=>bs.getD j true)=k:=by
       rw [<- ek,kG]
       rw [hl,List.size_toArray]
       simp only [List.size_toArray] at hz
       omega
      have hrc:RcAt A s (.ref c1) (.ref c2) k:=by rw [<- e3];exact RcAt.lists p1 p2 hz hu he
      have hne:RcNeAt A s (.ref c1) (.ref c2) (!k):=by rw [<- e3];exact RcNeAt.lists p1 p2 hz hu he
      exact ⟨refs _ _ rfl rfl hrc,hrc,hne⟩
    ·rw [if_neg hlen] at e
     cases e
     have hz:(its1.toArray.size != its2.toArray.size)=true:=by
      rw [List.size_toArray,List.size_toArray,<- w1.length,<- w2.length,q1.length,q2.length]
      simpa using hlen
     have hrc:RcAt A s (.ref c1) (.ref c2) false:=RcAt.lists_lengths p1 p2 hz hu
     exact ⟨refs _ _ rfl rfl hrc,hrc,RcNeAt.lists_lengths p1 p2 hz hu⟩
end
section
variable {a b:Expr} {ga:Ev->R D}
noncomputable def eqF (x y:D):Option D:=(eqD 40 x y).map .bl
noncomputable def neF (x y:D):Option D:=(eqD 40 x y).map fun k=>.bl (!k)
noncomputable def Jh (K:PySem.W.Frag) (neg:Bool):R2:=fun x y H Q=>∃ G dx dy k,Same G H/\Rep K G x dx/\Rep K G y dy/\eqD 40 dx dy=some k/\Q (.bl (if neg then !k else k)) H
theorem BS (hu:X.A.units+64<cLine):OpR X (compareOp .Eq) (Jh X.K false):=by
 intro pins s σ H x y v u Q I rx ry h
 obtain ⟨G,dx,dy,k,sub,r1,r2,e,q⟩:=h
 exact (yy I sub 40 X.A dx dy k x y v u (by omega) e r1 r2 rx ry).rc _ _ _ _ ⟨.bl k,H,I,rfl,q⟩
theorem E4 (hu:X.A.units+64<cLine):OpR X (compareOp .NotEq) (Jh X.K true):=by
 intro pins s σ H x y v u Q I rx ry h
 obtain ⟨G,dx,dy,k,sub,r1,r2,e,q⟩:=h
 exact (yy I sub 40 X.A dx dy k x y v u (by omega) e r1 r2 rx ry).ne _ _ _ _ ⟨.bl (!k),H,I,rfl,q⟩
theorem vC (hu:X.A.units+64<cLine) (ha:PF X a ga) (hb:PF X b gb):PF X (.Compare a [.Eq] [b] pos) (g2 eqF ga gb):=BK (BS hu) (by
 intro G H x y dx dy d Q s rx ry e q
 unfold eqF at e
 cases e1:eqD 40 dx dy with
 | none=>rw [e1] at e;cases e
 | some k=>rw [e1] at e;cases e;exact ⟨G,dx,dy,k,s,rx,ry,e1,q _ G H (.refl s) (.bl k)⟩) ha hb (jA _)
end
end L2
namespace L2
open PySem PySem.Spec PyProof.Rows
section
variable {a b c e:Expr} {di:List Expr} {ga gc:Ev->R D} {gt gu:Ev->R Bool}
noncomputable def isD:D->D->Option Bool
 | .non,.non=>some true
 | _,.non=>some false
 | .bl x,.bl y=>some (x==y)
 | _,_=>none
noncomputable def isF (x y:D):Option D:=(isD x y).map .bl
noncomputable def rIs (neg:Bool):R2:=fun x y H Q=>(y=.non/\Q (.bl (if neg then !decide (x=.non) else decide (x=.non))) H)\/∃ i j,x=.bl i/\y=.bl j/\Q (.bl (if neg then !(i==j) else (i==j))) H
theorem Gp:OpR X (compareOp .Is) (rIs false):=op_isN.or (r':=fun x y H Q=>∃ i j,x=.bl i/\y=.bl j/\Q (.bl (i==j)) H) (by
 intro pins s σ H x y v u Q I rx ry h
 obtain ⟨i,j,rfl,rfl,q⟩:=h
 cases rx
 cases ry
 exact is_bool ⟨.bl _,H,I,rfl,q⟩)
theorem HR (K:PySem.W.Frag) (neg:Bool):ROk K (rIs neg) (fun x y=>(isD x y).map fun k=>.bl (if neg then !k else k)):=by
 intro G H x y dx dy d Q s rx ry e q
 dsimp only at e
 cases e1:isD dx dy with
 | none=>rw [e1] at e;cases e
 | some k=>
  rw [e1] at e
  have ed:D.bl (if neg=true then !k else k)=d:=Option.some.inj e
  subst ed
  unfold isD at e1
  split at e1
  ·cases e1
   exact .inl ⟨ry.non_inv,by rw [rx.non_inv];exact q _ G H (.refl s) (.bl _)⟩
  ·rename_i hx
   cases e1
   have hn:x ≠ .non:=fun z=>by subst z;cases rx;exact hx rfl
   refine .inl ⟨ry.non_inv,?_⟩
   rw [decide_eq_false hn]
   exact q _ G H (.refl s) (.bl _)
  ·cases e1
   exact .inr ⟨_,_,rx.bl_inv,ry.bl_inv,q _ G H (.refl s) (.bl _)⟩
  ·cases e1
noncomputable def asB:D->R Bool
 | .bl k=>.ok k
 | _=>.no
noncomputable def mr (ga gb:Ev->R D):Ev->R D:=fun ρ=>ga ρ>>=fun x=>asB x>>=fun k=>if k=true then gb ρ else .ok (.bl false)
noncomputable def gOr (ga gb:Ev->R D):Ev->R D:=fun ρ=>ga ρ>>=fun x=>asB x>>=fun k=>if k=true then .ok (.bl true) else gb ρ
noncomputable def H9 (ga:Ev->R D):Ev->R D:=fun ρ=>ga ρ>>=fun x=>asB x>>=fun k=>.ok (.bl (!k))
theorem asB.ok {β:Type} {K:PySem.W.Frag} {k:Bool->R β} {P:β->Prop} {E:Addr->Prop} (r:Rep K G v d) (h:(asB d>>=k).post P E):∃ c,v=.bl c/\d=.bl c/\(k c).post P E:=by
 cases r with
 | bl c=>exact ⟨c,rfl,rfl,h⟩
 | _=>exact h.elim
theorem ia {op:BoolOp} (h:PF X a ga):PF X (.BoolOp op [a] pos) ga:=Go h
theorem fY (ha:PF X a ga) (hb:PF X (.BoolOp .And (b::di) pos) gb):PF X (.BoolOp .And (a::b::di) pos) (mr ga gb):=by
 intro pins s σ H Q I h
 refine Fq ha hb pins s σ H Q I ?_
 obtain ⟨G,ρ,st,h⟩:=h
 refine tG.intro st h fun x v G1 H1 u1 st1 r1 h1=>?_
 obtain ⟨c,ec,ed,h2⟩:=asB.ok r1 h1
 subst ec ed
 refine ⟨c,rfl,?_⟩
 cases c with
 | true=>rw [if_pos rfl] at h2 ⊢;exact tG.last st1 h2
 | false=>rw [if_neg Bool.false_ne_true] at h2 ⊢;exact h2 _ G1 H1 (.refl st1.sub) (.bl false)
theorem GV (ha:PF X a ga) (hb:PF X (.BoolOp .Or (b::di) pos) gb):PF X (.BoolOp .Or (a::b::di) pos) (gOr ga gb):=by
 intro pins s σ H Q I h
 refine Jk ha hb pins s σ H Q I ?_
 obtain ⟨G,ρ,st,h⟩:=h
 refine tG.intro st h fun x v G1 H1 u1 st1 r1 h1=>?_
 obtain ⟨c,ec,ed,h2⟩:=asB.ok r1 h1
 subst ec ed
 refine ⟨c,rfl,?_⟩
 cases c with
 | true=>rw [if_pos rfl] at h2 ⊢;exact h2 _ G1 H1 (.refl st1.sub) (.bl true)
 | false=>rw [if_neg Bool.false_ne_true] at h2 ⊢;exact tG.last st1 h2
theorem GG (ha:PF X a ga):PF X (.UnaryOp .Not a pos) (H9 ga):=by
 intro pins s σ H Q I h
 refine GN ha pins s σ H Q I ?_
 obtain ⟨G,ρ,st,h⟩:=h
 refine tG.intro st h fun x v G1 H1 u1 st1 r1 h1=>?_
 obtain ⟨c,ec,ed,h2⟩:=asB.ok r1 h1
 subst ec ed
 exact ⟨c,rfl,h2 _ G1 H1 (.refl st1.sub) (.bl _)⟩
noncomputable def A3:D->R D
 | .int i=>.ok (.int (-i))
 | _=>.no
theorem Hm (ha:PF X a ga):PF X (.UnaryOp .USub a pos) (fun ρ=>ga ρ>>=A3):=by
 intro pins s σ H Q I h
 refine Js Fr ha pins s σ H Q I ?_
 obtain ⟨G,ρ,st,h⟩:=h
 refine tG.intro st h fun x v G1 H1 u1 st1 r1 h1=>?_
 cases r1 with
 | int i=>exact ⟨i,rfl,h1 _ G1 H1 (.refl st1.sub) (.int _)⟩
 | _=>exact h1.elim
noncomputable def jM:D->R Bool
 | .non=>.ok false
 | .bl k=>.ok k
 | .int i=>.ok (i != 0)
 | .str x=>.ok (!x.isEmpty)
 | .tup xs=>.ok (!xs.isEmpty)
 | .lst _ xs=>.ok (!xs.isEmpty)
 | .exc _=>.no
 | .dct _ _=>.no
theorem Reps.isEmpty {K:PySem.W.Frag} (r:Reps K G vs ds):vs.isEmpty=ds.isEmpty:=by cases r <;> rfl
theorem wU (h:PF X e ga) (he:∀ whole,isTrue e X.env whole=(do let v <- whole;standAt e.pos;holding [v] (truthy v)):=by intro _;rfl):PB X e (fun ρ=>ga ρ>>=jM):=by
 intro pins s σ H Q I hq
 refine zv h he pins s σ H Q I ?_
 obtain ⟨G,ρ,st,hq⟩:=hq
 refine tG.intro st hq fun x v G1 H1 u1 st1 r1 h1=>?_
 have fin:∀ k,jM x=.ok k->Q k H1:=fun k ek=>by rw [ek] at h1;exact h1 k G1 H1 (.refl st1.sub) rfl
 cases r1 with
 | non=>exact ⟨_,rfl,fin _ rfl⟩
 | bl k=>exact ⟨_,rfl,fin _ rfl⟩
 | int i=>exact ⟨_,rfl,fin _ rfl⟩
 | str y hy=>
  refine ⟨_,⟨hy,rfl⟩,fin _ ?_⟩
  show R.ok _=R.ok _
  congr 1
  have:y.cps.toList.length=y.length:=Str.len_list y
  cases h:y.cps.toList with
  | nil=>rw [h] at this;rw [<- this];rfl
  | cons c cs=>rw [h] at this;rw [<- this];simp;omega
 | tup h r=>exact ⟨_,.inr (.inl ⟨_,h.mono st1.sub,rfl⟩),fin _ (by show R.ok _=R.ok _;rw [r.isEmpty])⟩
 | lst h r=>exact ⟨_,.inl ⟨_,.of (st1.sub _ _ h),rfl⟩,fin _ (by show R.ok _=R.ok _;rw [r.isEmpty])⟩
 | fls h r=>exact ⟨_,.inl ⟨_,h.mono st1.sub,rfl⟩,fin _ (by show R.ok _=R.ok _;rw [r.isEmpty])⟩
 | _=>exact h1.elim
theorem my {op:CmpOp} {r:R2} {f:D->D->Option D} (ho:OpR X (compareOp op) r) (hf:ROk X.K r f) (ha:PF X a ga) (hb:PF X b gb) (hm:behindInMarks op b=false):PB X (.Compare a [op] [b] pos) (fun ρ=>g2 f ga gb ρ>>=asB):=by
 intro pins s σ H Q I h
 refine sx ho ha hb hm pins s σ H Q I ?_
 obtain ⟨G,ρ,st,h⟩:=h
 refine Bl hf ?_
 refine tG.intro st h fun x v G1 H1 u1 st1 r1 h1=>?_
 cases r1 with
 | bl k=>exact ⟨k,rfl,h1 k G1 H1 (.refl st1.sub) rfl⟩
 | _=>exact h1.elim
theorem HJ (ha:PF X a ga) (hb:PF X b gb):PB X (.Compare a [.Lt] [b] pos) (fun ρ=>g2 ltD ga gb ρ>>=asB):=my FP (Je _) ha hb (jA _)
theorem Jv (ha:PF X a ga) (hb:PF X b gb):PB X (.Compare a [.LtE] [b] pos) (fun ρ=>g2 leD ga gb ρ>>=asB):=my mH (uW _) ha hb (jA _)
theorem JD (ha:PF X a ga) (hb:PF X b gb):PB X (.Compare a [.Gt] [b] pos) (fun ρ=>g2 gtD ga gb ρ>>=asB):=my I8 (Ip _) ha hb (jA _)
theorem B9 (K:PySem.W.Frag) (neg:Bool):ROk K (Jh K neg) (fun x y=>(eqD 40 x y).map fun k=>.bl (if neg then !k else k)):=by
 intro G H x y dx dy d Q s rx ry e q
 dsimp only at e
 cases e1:eqD 40 dx dy with
 | none=>rw [e1] at e;cases e
 | some k=>rw [e1] at e;cases e;exact ⟨G,dx,dy,k,s,rx,ry,e1,q _ G H (.refl s) (.bl _)⟩
theorem H8 (hu:X.A.units+64<cLine) (ha:PF X a ga) (hb:PF X b gb):PB X (.Compare a [.Eq] [b] pos) (fun ρ=>g2 eqF ga gb ρ>>=asB):=my (BS hu) (B9 _ false) ha hb (jA _)
theorem JH (hu:X.A.units+64<cLine) (ha:PF X a ga) (hb:PF X b gb):PB X (.Compare a [.NotEq] [b] pos) (fun ρ=>g2 neF ga gb ρ>>=asB):=my (E4 hu) (B9 _ true) ha hb (jA _)
theorem JF (ha:PF X a ga) (hb:PF X b gb):PB X (.Compare a [.Is] [b] pos) (fun ρ=>g2 isF ga gb ρ>>=asB):=my Gp (HR _ false) ha hb (jA _)
theorem A8 {op op':CmpOp} {r r':R2} {f f':D->D->Option D} (ho:OpR X (compareOp op) r) (ho':OpR X (compareOp op') r') (hf:ROk X.K r f) (hf':ROk X.K r' f') (ha:PF X a ga) (hb:PF X b gb) (hc:PF X c gc)
 (hm:lastMarks [op,op'] [b,c]=false:=by with_unfolding_all rfl):PB X (.Compare a [op,op'] [b,c] pos) (fun ρ=>g3 f f' ga gb gc ρ>>=asB):=by
 intro pins s σ H Q I h
 refine zU ho ho' ha hb hc hm pins s σ H Q I ?_
 obtain ⟨G,ρ,st,h⟩:=h
 have h':(ga ρ>>=fun x=>gb ρ>>=fun y=>ofO (f x y)>>=fun z=>(match z with|.bl true=>gc ρ>>=fun w=>ofO (f' y w)|.bl false=>.ok (.bl false)|_=>.no)>>=asB).post (Fin G H (fun _ b c=>b=c) Q) (Exx X σ G H):=by
  have e:(g3 f f' ga gb gc ρ>>=asB)=(ga ρ>>=fun x=>gb ρ>>=fun y=>ofO (f x y)>>=fun z=>(match z with|.bl true=>gc ρ>>=fun w=>ofO (f' y w)|.bl false=>.ok (.bl false)|_=>.no)>>=asB):=by
   unfold g3
   cases ga ρ with
   | ok x=>cases gb ρ with
    | ok y=>simp only [R.ok_bind];cases ofO (f x y) <;> rfl
    | _=>rfl
   | _=>rfl
  rw [<- e];exact h
 refine tG.intro st h' fun x v G1 H1 u1 st1 r1 h1=>?_
 refine tG.intro st1 h1 fun y w G2 H2 u2 st2 r2 h2=>?_
 cases e:f x y with
 | none=>rw [e] at h2;exact h2.elim
 | some d=>
  rw [e] at h2
  refine hf G2 H2 v w x y d _ st2.sub (r1.mono u2.gg) r2 e fun z G3 H3 u3 r3=>?_
  have h3:=oH u3 h2
  have st3:=st2.up u3
  cases r3 with
  | bl k=>
   refine ⟨k,rfl,?_⟩
   cases k with
   | false=>rw [if_neg Bool.false_ne_true];exact ⟨false,rfl,h3 _ G3 H3 (.refl st3.sub) rfl⟩
   | true=>
    rw [if_pos rfl]
    have h3':(gc ρ>>=fun w=>ofO (f' y w)>>=asB).post (Fin G3 H3 (fun _ b c=>b=c) Q) (Exx X σ G3 H3):=by
     have e:((gc ρ>>=fun w=>ofO (f' y w))>>=asB)=(gc ρ>>=fun w=>ofO (f' y w)>>=asB):=by cases gc ρ <;> rfl
     rw [<- e];exact h3
    refine tG.intro st3 h3' fun q vq G4 H4 u4 st4 r4 h4=>?_
    cases e':f' y q with
    | none=>rw [e'] at h4;exact h4.elim
    | some d'=>
     rw [e'] at h4
     refine hf' G4 H4 w vq y q d' _ st4.sub ((r2.mono u3.gg).mono u4.gg) r4 e' fun z' G5 H5 u5 r5=>?_
     have h5:=oH u5 h4
     cases r5 with
     | bl k'=>exact ⟨k',rfl,h5 k' G5 H5 (.refl u5.sub) rfl⟩
     | _=>exact h5.elim
  | _=>exact h3.elim
theorem C8 (ha:PF X a ga) (hb:PF X b gb) (hc:PF X c gc) (hm:lastMarks [.LtE,.LtE] [b,c]=false:=by with_unfolding_all rfl):PB X (.Compare a [.LtE,.LtE] [b,c] pos) (fun ρ=>g3 leD leD ga gb gc ρ>>=asB):=A8 mH mH (uW _) (uW _) ha hb hc hm
noncomputable def HG (t u:Ev->R Bool):Ev->R Bool:=fun ρ=>t ρ>>=fun k=>if k=true then u ρ else .ok false
noncomputable def qV (t u:Ev->R Bool):Ev->R Bool:=fun ρ=>t ρ>>=fun k=>if k=true then .ok true else u ρ
theorem fZ (ha:PB X a gt):PBW X (.BoolOp .Or [a] pos) gt:=GW ha
theorem jB (ha:PB X a gt) (hb:PBW X (.BoolOp .Or (b::di) pos) gu):PBW X (.BoolOp .Or (a::b::di) pos) (qV gt gu):=by
 intro whole pins s σ H Q I h
 refine Jn ha hb whole pins s σ H Q I ?_
 obtain ⟨G,ρ,st,h⟩:=h
 refine tG.intro st h fun x v G1 H1 u1 st1 r1 h1=>?_
 subst r1
 cases v with
 | true=>rw [if_pos rfl] at h1 ⊢;exact h1 _ G1 H1 (.refl st1.sub) rfl
 | false=>rw [if_neg Bool.false_ne_true] at h1 ⊢;exact tG.last st1 h1
theorem F5 (ha:PB X a gt):PB X (.UnaryOp .Not a pos) (fun ρ=>gt ρ>>=fun k=>.ok (!k)):=by
 intro pins s σ H Q I h
 refine FN ha pins s σ H Q I ?_
 obtain ⟨G,ρ,st,h⟩:=h
 refine tG.intro st h fun x v G1 H1 u1 st1 r1 h1=>?_
 subst r1
 exact h1 _ G1 H1 (.refl st1.sub) rfl
noncomputable def gIf (gt:Ev->R Bool) (ga gb:Ev->R D):Ev->R D:=fun ρ=>gt ρ>>=fun k=>if k=true then ga ρ else gb ρ
theorem AH (hc:PB X c gt) (ha:PF X a ga) (hb:PF X b gb):PF X (.IfExp c a b pos) (gIf gt ga gb):=by
 intro pins s σ H Q I h
 refine zW hc ha hb pins s σ H Q I ?_
 obtain ⟨G,ρ,st,h⟩:=h
 refine tG.intro st h fun x v G1 H1 u1 st1 r1 h1=>?_
 subst r1
 cases v with
 | true=>rw [if_pos rfl] at h1 ⊢;exact tG.last st1 h1
 | false=>rw [if_neg Bool.false_ne_true] at h1 ⊢;exact tG.last st1 h1
theorem ad:PFA X [] (fun _=>.ok []):=by
 intro pos pins s σ H Q I h
 obtain ⟨G,ρ,st,h⟩:=h
 exact jb pos pins s σ H Q I (h [] G H (.refl st.sub) .nil)
theorem zR (ha:PF X e ga) (hr:PFA X es gl) (hs:starEach (e::es) X.env=(false,eval e X.env)::starEach es X.env:=by rfl):PFA X (e::es) (fun ρ=>ga ρ>>=fun x=>gl ρ>>=fun xs=>.ok (x::xs)):=by
 intro pos pins s σ H Q I h
 refine dJ ha hr hs pos pins s σ H Q I ?_
 obtain ⟨G,ρ,st,h⟩:=h
 refine tG.intro st h fun x v G1 H1 u1 st1 r1 h1=>?_
 refine tG.intro st1 h1 fun y w G2 H2 u2 st2 r2 h2=>?_
 exact h2 _ G2 H2 (.refl st2.sub) (.cons (r1.mono u2.gg) r2)
noncomputable def mkT (ds:List D):R D:=if ds.length<=sizeLine then .ok (.tup ds) else .no
theorem GY (h:PFA X es gl):PF X (.Tuple es k pos) (fun ρ=>gl ρ>>=mkT):=by
 intro pins s σ H Q I hq
 refine EG h pins s σ H Q I ?_
 obtain ⟨G,ρ,st,hq⟩:=hq
 refine tG.intro st hq fun ds vs G1 H1 u1 st1 r1 h1=>?_
 unfold mkT at h1
 split at h1
 ·rename_i hz
  exact ⟨by rw [r1.length];exact hz,fun p hp=>h1 _ _ _ (.new st1.sub hp) (.tup (.of aM) (r1.mono (.into (st1.sub.free hp))))⟩
 ·exact h1.elim
theorem B7 {c:Nat}:[c].length<=sizeLine:=by show 1<=sizeLine;decide
noncomputable def ixD:D->D->Option D
 | .lst _ xs,.int i=>atI xs i
 | .tup xs,.int i=>atI xs i
 | .str x,.int i=>(atI x i).map fun c=>.str [c]
 | _,_=>none
theorem Reps.atI {K:PySem.W.Frag} {G:Hp} {vs:List V} {ds:List D} {i:Int} {d:D} (r:Reps K G vs ds) (h:atI ds i=some d):∃ v,atI vs i=some v/\Rep K G v d:=by
 unfold L2.atI at h ⊢
 rw [r.length]
 cases e:ixN ds.length i with
 | none=>rw [e] at h;cases h
 | some j=>rw [e] at h;exact r.get h
theorem Iq (K:PySem.W.Frag):ROk K (rIx K) ixD:=by
 intro G H x y dx dy d Q s rx ry e q
 unfold ixD at e
 split at e
 ·obtain ⟨a,vs,rfl,h,r⟩:=rx.seq_inv
  obtain ⟨v,e1,r1⟩:=r.atI e
  exact .inl ⟨a,vs,_,v,rfl,ry.int_inv,h.mono s,e1,q v G H (.refl s) r1⟩
 ·obtain ⟨a,vs,rfl,h,r⟩:=rx.tup_inv
  obtain ⟨v,e1,r1⟩:=r.atI e
  exact .inr (.inl ⟨a,vs,_,v,rfl,ry.int_inv,h.mono s,e1,q v G H (.refl s) r1⟩)
 ·rename_i z i
  obtain ⟨y',rfl,ey,hy⟩:=rx.str_inv
  subst ey
  cases e1:L2.atI y'.cps.toList i with
  | none=>rw [e1] at e;cases e
  | some c=>
   rw [e1] at e
   cases e
   exact .inr (.inr ⟨y',i,c,rfl,ry.int_inv,hy,e1,q _ G H (.refl s) (.strL (by simp) B7)⟩)
 ·cases e
theorem bb (ha:PF X a ga) (hb:PF X b gb) (hs:ni b:=by exact fun _ _=>rfl):PF X (.Subscript a b pos) (g2 ixD ga gb):=
 fun pins s σ H Q I h=>Ek FF ha hb hs pins s σ H Q I (Bl (Iq _) h)
end
noncomputable def jh {α:Type} (xs:List α) (lo hi:Option Int):List α:=(xs.drop (HT.sIx xs.length 0 lo)).take (HT.sIx xs.length xs.length hi - HT.sIx xs.length 0 lo)
theorem DL {α:Type} (xs:List α) (lo hi:Option Int):(jh xs lo hi).length<=xs.length:=by
 unfold jh
 rw [List.length_take,List.length_drop]
 omega
theorem Reps.cut {K:PySem.W.Frag} (r:Reps K G vs ds) (lo hi:Option Int):Reps K G (B5 vs lo hi) (jh ds lo hi):=by
 unfold B5 jh
 rw [r.length]
 exact (r.drop _).take _
section
variable {a b c e:Expr} {di:List Expr} {lo hi:Option Expr} {ga gc:Ev->R D} {go gp:Ev->R (Option Int)} {p2:Pos}
noncomputable def Hv (K:PySem.W.Frag):V->Option Int->Option Int->Hp->VK->Prop:=fun x lo hi H Q=>∃ a xs,x=.ref a/\SqT K H a xs/\
 (HT.sIx xs.length 0 lo=0/\HT.sIx xs.length xs.length hi=xs.length)/\Q (.ref a) H
theorem sl_tup_whole:SlR X (Hv X.K):=by
 intro pins s σ H x v vl vu lo hi sl Q I rx hs pl pu h
 obtain ⟨a,xs,rfl,hx,⟨hw1,hw2⟩,q⟩:=h
 cases rx
 obtain ⟨its,r,ht,hz⟩:=I.tuple hx
 have hlen:its.toArray.size=xs.length:=by rw [List.size_toArray];exact r.length.symm
 refine ⟨"tuple",_,PyProof.Rows.slot_tuple_getitem.lookup,ht.typeIs,?_⟩
 obtain ⟨os,hos,hcs,hds⟩:=id hs
 have hTs:s.TypeIs (.ref sl) "slice":=⟨os,hos,hcs⟩
 unfold getItem
 try with_reducible refine wpAny_holding ?_
 first|refine wpAny_bind (wpAny_pure ?_)|skip
 refine wpAny_bind (wpAny_sequenceKey ht.typeIs (by decide) ?_)
 refine wpAny_bind (wpAny_callSpecial?_slot (name:=Str.ofString "__getitem__") ht.typeIs PyProof.Rows.slot_tuple_getitem
  (wpAny_call_entry PyProof.Rows.slot_tuple_getitem ht.typeIs entry_tuple_getitem ?_ (args_tuple_getitem _ _)))
 show wpAny _ _ (Builtin.Tuple.tupleItemsOf (.ref a)>>=_) _ _ s
 refine wpAny_bind (tupleItemsOf_ ht ?_)
 refine wpAny_bind (wpAny_typeOf hTs ?_)
 rw [if_pos (by decide)]
 refine wpAny_bind (HT.sliceApplied_gen hs pl pu ?_)
 rw [hlen,hw1,hw2]
 dsimp only
 rw [if_pos (by simp)]
 have fin:EP X pins σ Q (.ref a) s:=⟨.ref a,H,I,rfl,q⟩
 obtain ⟨o,ho,hc,n,hd⟩:=id ht
 unfold Builtin.Tuple.tupleIsExact
 refine wpAny_bind (wpAny_bind (wpAny_typeOf ht.typeIs (wpAny_pure ?_)))
 rw [if_pos (by decide)]
 exact wpAny_bind (wpAny_rule (wpAny_pure ⟨_,rfl,wpAny_pure fin⟩))
theorem Hc {α:Type} (xs:List α) (a:Nat):∀ k:Nat,((List.range k).map (a + ·)).filterMap (fun i:Nat=>xs[i]?)=(xs.drop a).take k
 | 0=>by simp
 | k+1=>by
  rw [List.range_succ,List.map_append,List.filterMap_append,Hc xs a k,List.take_add_one,List.getElem?_drop]
  congr 1
  try (simp only [List.map_cons,List.map_nil,List.filterMap_cons,List.filterMap_nil];cases xs[a+k]? <;> rfl)
theorem tE (n d:Nat) (v:Option Int):(match v with|none=>(d:Int)|some i=>max 0 (min (if i<0 then i+(n:Int) else i) (n:Int)))=((HT.sIx n d v:Nat):Int):=by
 cases v with
 | none=>rfl
 | some i=>
  show max 0 (min (if i<0 then i+(n:Int) else i) (n:Int))=(((if i<0 then (i+(n:Int)).toNat else min i.toNat n):Nat):Int)
  split <;> omega
theorem DF (lo hi:Option Int) (n:Nat):Builtin.Str.strSliceIndices lo hi 1 n=(List.range (HT.sIx n n hi - HT.sIx n 0 lo)).map (HT.sIx n 0 lo + ·):=by
 have e:Builtin.Str.strSliceIndices lo hi 1 n=sliceRange ((HT.sIx n 0 lo:Nat):Int) ((HT.sIx n n hi:Nat):Int) 1:=by
  rw [<- tE n 0 lo,<- tE n n hi]
  rfl
 rw [e]
 generalize HT.sIx n 0 lo=a
 generalize HT.sIx n n hi=b
 unfold sliceRange
 have hc:(if (1:Int) > 0 then (if (a:Int)<(b:Int) then ((b:Int) - (a:Int)+1 - 1) / 1 else 0) else (if (a:Int) > (b:Int) then ((a:Int) - (b:Int) - 1 - 1) / (-1) else 0)).toNat=b - a:=by
  rw [if_pos (by decide)]
  split
  ·rw [Int.ediv_one];omega
  ·omega
 simp only [hc]
 apply List.map_congr_left
 intro k _
 omega
theorem zb (x:Str) (lo hi:Option Int):(Txt.slice x lo hi).cps.toList=jh x.cps.toList lo hi:=by
 have hn:x.cps.toList.length=x.length:=Str.len_list x
 unfold Txt.slice jh
 rw [hn,DF]
 have hb:HT.sIx x.length x.length hi<=x.length:=HT.sIx_le _ _ (Nat.le_refl _) hi
 by_cases hc:((1:Int)==1 && ((List.range (HT.sIx x.length x.length hi - HT.sIx x.length 0 lo)).map (HT.sIx x.length 0 lo + ·)).length==x.length)=true
 ·rw [if_pos hc]
  have h2:HT.sIx x.length x.length hi - HT.sIx x.length 0 lo=x.length:=by simpa using hc
  have h3:HT.sIx x.length 0 lo=0\/x.length=0:=by omega
  rw [h2]
  rcases h3 with h3|h3
  ·rw [h3,List.drop_zero,<- hn,List.take_length]
  ·have:x.cps.toList=[]:=List.eq_nil_of_length_eq_zero (by rw [hn];exact h3)
   rw [this];simp
 ·rw [if_neg hc]
  have e:(fun i:Nat=>x.cps[i]?)=(fun i:Nat=>x.cps.toList[i]?):=by funext i;simp
  show (List.filterMap (fun i:Nat=>x.cps[i]?) _).toArray.toList=_
  rw [List.toList_toArray,e,Hc]
noncomputable def J9:V->Option Int->Option Int->Hp->VK->Prop:=fun x lo hi H Q=>∃ y:Str,x=.str y/\y.length<=sizeLine/\Q (.str (Txt.slice y lo hi)) H
theorem sl_str:SlR X J9:=by
 intro pins s σ H x v vl vu lo hi sl Q I rx hs pl pu h
 obtain ⟨y,rfl,hz,q⟩:=h
 obtain ⟨t,rfl⟩:=rx
 refine ⟨"str",_,F.slot_str_getitem.lookup,typeIs_str _ _ _,?_⟩
 cases pl with
 | none=>
  cases pu with
  | none=>exact wpAny_getItem_str_slice (l:=none) (u:=none) (st:=none) hs rfl (post_val_or_str ⟨Nat.le_trans (Txt.slice_le y _ _) hz,fun t' k=>⟨.str _,H,I.tok k,⟨t',rfl⟩,q⟩⟩)
  | int j uj=>exact wpAny_getItem_str_slice (l:=none) (u:=some (j,uj)) (st:=none) hs rfl (post_val_or_str ⟨Nat.le_trans (Txt.slice_le y _ _) hz,fun t' k=>⟨.str _,H,I.tok k,⟨t',rfl⟩,q⟩⟩)
 | int i ui=>
  cases pu with
  | none=>exact wpAny_getItem_str_slice (l:=some (i,ui)) (u:=none) (st:=none) hs rfl (post_val_or_str ⟨Nat.le_trans (Txt.slice_le y _ _) hz,fun t' k=>⟨.str _,H,I.tok k,⟨t',rfl⟩,q⟩⟩)
  | int j uj=>exact wpAny_getItem_str_slice (l:=some (i,ui)) (u:=some (j,uj)) (st:=none) hs rfl (post_val_or_str ⟨Nat.le_trans (Txt.slice_le y _ _) hz,fun t' k=>⟨.str _,H,I.tok k,⟨t',rfl⟩,q⟩⟩)
noncomputable def Ef (lo hi:Option Int):D->Option D
 | .str x=>some (.str (jh x lo hi))
 | .tup xs=>some (.tup (jh xs lo hi))
 | .lst _ xs=>some (.lst false (jh xs lo hi))
 | _=>none
noncomputable def rSl (K:PySem.W.Frag):V->Option Int->Option Int->Hp->VK->Prop:=fun x lo hi H Q=>J9 x lo hi H Q\/Hv K x lo hi H Q\/JZ K x lo hi H Q\/J7 K x lo hi H Q
theorem FO:SlR X (rSl X.K):=sl_str.or (sl_tup_whole.or (sl_tup.or DA))
noncomputable def PFO (X:Cx) (o:Option Expr) (g:Ev->R (Option Int)):Prop:=PO X o (tG X (fun _ b c=>b=c) g)
theorem dw:PFO X none (fun _=>.ok none):=by
 intro pins s σ H Q I h
 obtain ⟨G,ρ,st,h⟩:=h
 exact DE pins s σ H Q I (h none G H (.refl st.sub) rfl)
noncomputable def asI:D->R Int
 | .int i=>.ok i
 | _=>.no
theorem An (h:PF X e ga):PFO X (some e) (fun ρ=>ga ρ>>=fun x=>asI x>>=fun i=>.ok (some i)):=by
 intro pins s σ H Q I hq
 refine Ey h pins s σ H Q I ?_
 obtain ⟨G,ρ,st,hq⟩:=hq
 refine tG.intro st hq fun x v G1 H1 u1 st1 r1 h1=>?_
 cases r1 with
 | int i=>exact ⟨i,rfl,h1 (some i) G1 H1 (.refl st1.sub) rfl⟩
 | _=>exact h1.elim
noncomputable def gSl (ga:Ev->R D) (go gp:Ev->R (Option Int)):Ev->R D:=fun ρ=>ga ρ>>=fun x=>go ρ>>=fun l=>gp ρ>>=fun u=>ofO (Ef l u x)
theorem dm (ha:PF X a ga) (hl:PFO X lo go) (hu:PFO X hi gp):PF X (.Subscript a (.Slice lo hi none p2) pos) (gSl ga go gp):=by
 intro pins s σ H Q I h
 refine A7 FO ha hl hu pins s σ H Q I ?_
 obtain ⟨G,ρ,st,h⟩:=h
 refine tG.intro st h fun x v G1 H1 u1 st1 r1 h1=>?_
 refine tG.intro st1 h1 fun l l' G2 H2 u2 st2 r2 h2=>?_
 subst r2
 refine tG.intro st2 h2 fun u u' G3 H3 u3 st3 r3 h3=>?_
 subst r3
 obtain ⟨d,e,q⟩:=ofO.ok h3
 have r:=(r1.mono u2.gg).mono u3.gg
 unfold Ef at e
 split at e
 ·cases e
  obtain ⟨y,rfl,ey,hy⟩:=r.str_inv
  subst ey
  exact .inl ⟨y,rfl,hy,q _ G3 H3 (.refl st3.sub) (.strL (zb y _ _) (Nat.le_trans (DL _ _ _) (by rw [Str.len_list];exact hy)))⟩
 ·rename_i xs0
  cases e
  obtain ⟨a,vs,rfl,h,t⟩:=r.tup_inv
  by_cases hw:HT.sIx vs.length 0 l'=0/\HT.sIx vs.length vs.length u'=vs.length
  ·refine .inr (.inl ⟨a,vs,rfl,h.mono st3.sub,hw,q _ G3 H3 (.refl st3.sub) ?_⟩)
   have e1:jh xs0 l' u'=xs0:=by
    unfold jh
    rw [<- t.length,hw.1,hw.2,List.drop_zero,Nat.sub_zero,t.length,List.take_length]
   rw [e1]
   exact .tup h t
  ·exact .inr (.inr (.inl ⟨a,vs,rfl,h.mono st3.sub,hw,fun p hp=>q _ _ _ (.new st3.sub hp) (.tup (.of aM) ((t.cut _ _).mono (.into (st3.sub.free hp))))⟩))
 ·cases e
  obtain ⟨a,vs,rfl,h,t⟩:=r.seq_inv
  exact .inr (.inr (.inr ⟨a,vs,rfl,h.mono st3.sub,fun p hp=>q _ _ _ (.new st3.sub hp) (.lst aM ((t.cut _ _).mono (.into (st3.sub.free hp))))⟩))
 ·cases e
noncomputable def HE (K:PySem.W.Frag) (r:List V->Hp->VK->Prop) (f:List D->Option D):Prop:=∀ (G H:Hp) (xs:List V) (ds:List D) (d:D) (Q:VK),Same G H->Reps K G xs ds->f ds=some d->Fin G H (Rep K) Q d->r xs H Q
theorem nJ {id:String} {p:Pos} {r:List V->Hp->VK->Prop} {f:List D->Option D} (hc:jN X (.builtin id) r) (hf:HE X.K r f) (hg:Gl X x) (hm:X.mg x=none) (hv:bootBuiltins x=some (.builtin id)) (ha:PFA X (e::es) gl)
 (hn:x ≠ "__name__":=by decide) (hdb:(x==("__debug__":Str))=false:=by decide)
 (he:starEach (e::es) X.env=(false,eval e X.env)::starEach es X.env:=by rfl) (hpl:(backTo pos (starEach es X.env)).any (·.1)=false:=by rfl):PF X (.Call (.Name x p) (e::es) [] pos) (fun ρ=>gl ρ>>=fun ds=>ofO (f ds)):=by
 intro pins s σ H Q I h
 refine nD hc hg hm hv ha hn hdb he hpl pins s σ H Q I ?_
 obtain ⟨G,ρ,st,h⟩:=h
 refine tG.intro st h fun ds vs G1 H1 u1 st1 r1 h1=>?_
 obtain ⟨d,e,q⟩:=ofO.ok h1
 exact hf G1 H1 vs ds d Q st1.sub r1 e q
theorem xj {T:String} {p:Pos} {r:List V->Hp->VK->Prop} {f:List D->Option D} (hc:jN X (.type T) r) (hf:HE X.K r f) (hg:Gl X x) (hm:X.mg x=none) (hv:bootBuiltins x=some (.type T)) (ha:PFA X (e::es) gl)
 (hn:x ≠ "__name__":=by decide) (hdb:(x==("__debug__":Str))=false:=by decide)
 (he:starEach (e::es) X.env=(false,eval e X.env)::starEach es X.env:=by rfl) (hpl:(backTo pos (starEach es X.env)).any (·.1)=false:=by rfl):PF X (.Call (.Name x p) (e::es) [] pos) (fun ρ=>gl ρ>>=fun ds=>ofO (f ds)):=by
 intro pins s σ H Q I h
 refine lc hc hg hm hv ha hn hdb he hpl pins s σ H Q I ?_
 obtain ⟨G,ρ,st,h⟩:=h
 refine tG.intro st h fun ds vs G1 H1 u1 st1 r1 h1=>?_
 obtain ⟨d,e,q⟩:=ofO.ok h1
 exact hf G1 H1 vs ds d Q st1.sub r1 e q
theorem Reps.one {K:PySem.W.Frag} (r:Reps K G vs [d]):∃ v,vs=[v]/\Rep K G v d:=by
 cases r with
 | cons r t=>cases t;exact ⟨_,rfl,r⟩
theorem Reps.two {K:PySem.W.Frag} {d':D} (r:Reps K G vs [d,d']):∃ v w,vs=[v,w]/\Rep K G v d/\Rep K G w d':=by
 cases r with
 | cons r t=>obtain ⟨w,rfl,r'⟩:=t.one;exact ⟨_,w,rfl,r,r'⟩
noncomputable def fu:List D->Option D
 | [.str x]=>some (.int x.length)
 | [.tup xs]=>some (.int xs.length)
 | [.lst _ xs]=>some (.int xs.length)
 | _=>none
theorem Hf {p:Pos} (hg:Gl X "len") (hm:X.mg "len"=none) (ha:PFA X [e] gl) (he:starEach [e] X.env=[(false,eval e X.env)]:=by rfl):PF X (.Call (.Name "len" p) [e] [] pos) (fun ρ=>gl ρ>>=fun ds=>ofO (fu ds)):=
 nJ zN (by
  intro G H xs ds d Q s r e q
  unfold fu at e
  split at e
  ·cases e
   obtain ⟨v,rfl,r1⟩:=r.one
   obtain ⟨y,rfl,ey,hy⟩:=r1.str_inv
   subst ey
   exact ⟨_,y.length,rfl,⟨hy,rfl⟩,by rw [<- Str.len_list];exact q _ G H (.refl s) (.int _)⟩
  ·cases e
   obtain ⟨v,rfl,r1⟩:=r.one
   obtain ⟨a,vs,rfl,h,t⟩:=r1.tup_inv
   exact ⟨_,vs.length,rfl,.inr ⟨vs,h.mono s,rfl⟩,by rw [t.length];exact q _ G H (.refl s) (.int _)⟩
  ·cases e
   obtain ⟨v,rfl,r1⟩:=r.one
   obtain ⟨a,vs,rfl,h,t⟩:=r1.seq_inv
   exact ⟨_,vs.length,rfl,.inl ⟨vs,h.mono s,rfl⟩,by rw [t.length];exact q _ G H (.refl s) (.int _)⟩
  ·cases e) hg hm PySem.boot_len ha (he:=by rw [he];rfl)
noncomputable def kK:List D->Option D
 | [.lst _ xs]=>some (.tup xs)
 | [.tup xs]=>some (.tup xs)
 | _=>none
theorem zJ (K:PySem.W.Frag):HE K (fun xs H Q=>∃ p ys,xs=[.ref p]/\((SqL K H p ys/\∀ l,H l=none->Q (.ref l) (upd H l (.tup ys)))\/(SqT K H p ys/\Q (.ref p) H))) kK:=by
 intro G H xs ds d Q s r e q
 unfold kK at e
 split at e
 ·cases e
  obtain ⟨v,rfl,r1⟩:=r.one
  obtain ⟨a,vs,rfl,h,t⟩:=r1.seq_inv
  exact ⟨a,vs,rfl,.inl ⟨h.mono s,fun l hl=>q _ _ _ (.new s hl) (.tup (.of aM) (t.mono (.into (s.free hl))))⟩⟩
 ·cases e
  obtain ⟨v,rfl,r1⟩:=r.one
  obtain ⟨a,vs,rfl,h,t⟩:=r1.tup_inv
  exact ⟨a,vs,rfl,.inr ⟨h.mono s,q _ G H (.refl s) (.tup h t)⟩⟩
 ·cases e
end
noncomputable def ItOk (K:PySem.W.Frag) (G₁:Hp) (J:It) (items:List D):Prop:=∀ (i:Nat) (G H:Hp),Same G₁ G->Same G H->
 (∀ d,items[i]?=some d->J.go i H/\∀ x H',J.yld i H x H'->∃ G',Up G H G' H'/\Rep K G' x d)/\(items.length<=i->J.stop i H)
noncomputable def PIF (X:Cx) (tg iter:Expr) (g:Ev->R (List D)):Prop:=PI X tg iter (tG X (fun G J items=>ItOk X.K G J items) g)
noncomputable def Its (x:Str):It:=⟨fun i _=>i<x.cps.size,fun i H v H'=>H'=H/\∃ c,x.cps[i]?=some c/\v=.str ⟨#[c]⟩,fun i _=>x.cps.size<=i⟩
section
variable {tg a e:Expr} {ga:Ev->R D}
theorem zc {l:Addr} {Rr:It->Hp->Prop} (I:Inv X pins σ H s) (h:SqL X.K H l xs) (q:Rr (Itl X.K l) H) :
  wpAny (model X.prog X.w) X.A (pyIter (.ref l)) (PIE X pins σ tg Rr) X.xe s:=by
 obtain ⟨its,rv,p,hz⟩:=I.list h
 refine wpAny_pyIter_list p.isList ?_
 refine ⟨s.heap.objs.size,[s.heap.objs.size],_,_,H,rfl,I.kept (t':=s.toks) fun b o e=>Heap.get?_push_of_some _ e,yn l _,⟨_,Heap.get?_push_size _ rfl,rfl,rfl⟩,fun b hb=>?_,q⟩
 have e:b=s.heap.objs.size:=by simpa using hb
 subst e
 exact I.fpOk (Nat.le_refl _) (I.hok.fresh (Nat.le_refl _))
theorem FL {l:Addr} {Rr:It->Hp->Prop} (I:Inv X pins σ H s) (h:SqT X.K H l xs) (q:Rr (Itt X.K l) H) :
  wpAny (model X.prog X.w) X.A (pyIter (.ref l)) (PIE X pins σ tg Rr) X.xe s:=by
 obtain ⟨its,rv,p,hz⟩:=I.tuple h
 refine wpAny_pyIter_tuple (show s.heap.IsTuple l its.toArray from p) ?_
 refine ⟨s.heap.objs.size,[s.heap.objs.size],_,_,H,rfl,I.kept (t':=s.toks) fun b o e=>Heap.get?_push_of_some _ e,vE l _,⟨_,Heap.get?_push_size _ rfl,rfl,rfl⟩,fun b hb=>?_,q⟩
 have e:b=s.heap.objs.size:=by simpa using hb
 subst e
 exact I.fpOk (Nat.le_refl _) (I.hok.fresh (Nat.le_refl _))
theorem uM {w:World} {K:PySem.W.Frag} {tg:Expr} (it:Addr) (x:Str) (t:Tok):Turn P w K tg (Its x) [it] it (fun i h=>h.IsStrIter it "str_ascii_iterator" x t i) where
 mem:=by simp
 obj:=fun i h st b hb=>by
  have e:b=it:=by simpa using hb
  subst e
  obtain ⟨o,e,c,d⟩:=st
  exact ⟨o,e,fun v z=>by rw [d] at z;cases z⟩
 keep:=fun i h h' st k=>let ⟨o,ho,r⟩:=st;⟨o,k it (by simp) o ho,r⟩
 item:=by
  intro X hP hw hK hc i pins s σ H E I hf st hg
  subst hP hw hK
  have hg':i<x.cps.size:=hg
  obtain ⟨f0,f1,f2,f3,f4,f5⟩:=hf it (by simp)
  refine wpAny_pyNext_ascii_item st (c:=x.cps[i]) (by simp [hg']) fun h' st' sb=>?_
  have I1:Inv X pins σ H { s with heap:=h',toks:=s.toks+1 }:=I.turned (t':=s.toks+1) (fun b o hb e=>(sb.2 b hb).trans e) f0 f1 f3 f4 f5
  obtain ⟨o,e,c,d⟩:=id st'
  exact ⟨_,rfl,wt (s:={ s with heap:=h',toks:=s.toks+1 }) e c d (by decide) ⟨.str ⟨#[x.cps[i]]⟩,H,I1,⟨_,rfl⟩,⟨rfl,_,by simp [hg'],rfl⟩,st',fun b hb=>(hf b hb).1⟩⟩
 done:=by
  intro X hP hw hK hc i pins s σ H E I hf st hg
  subst hP hw hK
  obtain ⟨f0,f1,f2,f3,f4,f5⟩:=hf it (by simp)
  have hg':x.cps.size<=i:=hg
  exact wpAny_pyNext_ascii_end (I.ok.hd hc) st (by simp;omega) fun h' eb=>⟨rfl,I.turned (t':=s.toks) (fun b o hb e=>eb b o hb e) f0 f1 f3 f4 f5⟩
 self:=fun _ _ _ _ _ st h=>wpAny_pyIter_striter_ascii st h
theorem wM {w:World} {K:PySem.W.Frag} {tg:Expr} (it:Addr) (x:Str) (t:Tok):Turn P w K tg (Its x) [it] it (fun i h=>h.IsStrIter it "str_iterator" x t i) where
 mem:=by simp
 obj:=fun i h st b hb=>by
  have e:b=it:=by simpa using hb
  subst e
  obtain ⟨o,e,c,d⟩:=st
  exact ⟨o,e,fun v z=>by rw [d] at z;cases z⟩
 keep:=fun i h h' st k=>let ⟨o,ho,r⟩:=st;⟨o,k it (by simp) o ho,r⟩
 item:=by
  intro X hP hw hK hc i pins s σ H E I hf st hg
  subst hP hw hK
  have hg':i<x.cps.size:=hg
  obtain ⟨f0,f1,f2,f3,f4,f5⟩:=hf it (by simp)
  refine wpAny_pyNext_wide_item st (c:=x.cps[i]) (by simp [hg']) fun h' st' sb=>?_
  have I1:Inv X pins σ H { s with heap:=h',toks:=s.toks+1 }:=I.turned (t':=s.toks+1) (fun b o hb e=>(sb.2 b hb).trans e) f0 f1 f3 f4 f5
  obtain ⟨o,e,c,d⟩:=id st'
  exact ⟨_,rfl,wt (s:={ s with heap:=h',toks:=s.toks+1 }) e c d (by decide) ⟨.str ⟨#[x.cps[i]]⟩,H,I1,⟨_,rfl⟩,⟨rfl,_,by simp [hg'],rfl⟩,st',fun b hb=>(hf b hb).1⟩⟩
 done:=by
  intro X hP hw hK hc i pins s σ H E I hf st hg
  subst hP hw hK
  obtain ⟨f0,f1,f2,f3,f4,f5⟩:=hf it (by simp)
  have hg':x.cps.size<=i:=hg
  exact wpAny_pyNext_wide_end (I.ok.hd hc) st (by simp;omega) fun h' eb=>⟨rfl,I.turned (t':=s.toks) (fun b o hb e=>eb b o hb e) f0 f1 f3 f4 f5⟩
 self:=fun _ _ _ _ _ st h=>wpAny_pyIter_striter_wide st h
theorem Gz {t:Tok} {Rr:It->Hp->Prop} (I:Inv X pins σ H s) (q:Rr (Its x) H) :
  wpAny (model X.prog X.w) X.A (pyIter (.str x t)) (PIE X pins σ tg Rr) X.xe s:=by
 have fp:∀ (o:Obj),∀ b∈[s.heap.objs.size],mE X pins H b:=fun o b hb=>by
  have e:b=s.heap.objs.size:=by simpa using hb
  subst e
  exact I.fpOk (Nat.le_refl _) (I.hok.fresh (Nat.le_refl _))
 cases ha:x.cps.all (· < 128)
 ·refine wpAny_pyIter_wide ha ⟨s.heap.objs.size,[s.heap.objs.size],_,_,H,rfl,I.kept (t':=s.toks) fun b o e=>Heap.get?_push_of_some _ e,wM _ x t,⟨_,Heap.get?_push_size _ rfl,rfl,rfl⟩,fp default,q⟩
 ·refine wpAny_pyIter_ascii ha ⟨s.heap.objs.size,[s.heap.objs.size],_,_,H,rfl,I.kept (t':=s.toks) fun b o e=>Heap.get?_push_of_some _ e,uM _ x t,⟨_,Heap.get?_push_size _ rfl,rfl,rfl⟩,fp default,q⟩
noncomputable def bU:D->R (List D)
 | .lst _ xs=>.ok xs
 | .tup xs=>.ok xs
 | .str x=>.ok (x.map fun c=>.str [c])
 | _=>.no
theorem ItOk.list {K:PySem.W.Frag} {l:Addr} (h:SqL K G l vs) (r:Reps K G vs ds):ItOk K G (Itl K l) ds:=by
 intro i G1 H1 s1 s2
 refine ⟨fun d e=>?_,fun hl=>⟨vs,(h.mono s1).mono s2,by rw [r.length];exact hl⟩⟩
 obtain ⟨v,ev,rv⟩:=r.get e
 refine ⟨⟨vs,v,(h.mono s1).mono s2,ev⟩,fun x H' y=>?_⟩
 obtain ⟨rfl,y⟩:=y
 have:=y vs ((h.mono s1).mono s2)
 rw [ev] at this
 cases this
 exact ⟨G1,.refl s2,rv.mono s1⟩
theorem ItOk.tup {K:PySem.W.Frag} {l:Addr} (h:SqT K G l vs) (r:Reps K G vs ds):ItOk K G (Itt K l) ds:=by
 intro i G1 H1 s1 s2
 refine ⟨fun d e=>?_,fun hl=>⟨vs,(h.mono s1).mono s2,by rw [r.length];exact hl⟩⟩
 obtain ⟨v,ev,rv⟩:=r.get e
 refine ⟨⟨vs,v,(h.mono s1).mono s2,ev⟩,fun x H' y=>?_⟩
 obtain ⟨rfl,y⟩:=y
 have:=y vs ((h.mono s1).mono s2)
 rw [ev] at this
 cases this
 exact ⟨G1,.refl s2,rv.mono s1⟩
theorem ItOk.str {K:PySem.W.Frag} (x:Str):ItOk K G (Its x) (x.cps.toList.map fun c=>.str [c]):=by
 intro i G1 H1 s1 s2
 refine ⟨fun d e=>?_,fun hl=>show x.cps.size<=i by simpa using hl⟩
 rw [List.getElem?_map] at e
 cases ec:x.cps.toList[i]? with
 | none=>rw [ec] at e;cases e
 | some c=>
  rw [ec] at e
  cases e
  have hi:i<x.cps.size:=by
   have:=(List.getElem?_eq_some_iff.mp ec).1
   simpa using this
  refine ⟨hi,fun v H' y=>?_⟩
  obtain ⟨rfl,c',e',rfl⟩:=y
  have:c'=c:=by
   have h2:x.cps.toList[i]?=x.cps[i]?:=by simp
   rw [h2,e'] at ec
   exact Option.some.inj ec
  subst this
  exact ⟨G1,.refl s2,.strL rfl B7⟩
theorem ItOk.range {K:PySem.W.Frag} (lo:Int) (n:Nat):ItOk K G (Itr lo n) ((List.range n).map fun i=>.int (lo+(i:Nat))):=by
 intro i G1 H1 s1 s2
 refine ⟨fun d e=>?_,fun hl=>show n<=i by simpa using hl⟩
 rw [List.getElem?_map] at e
 by_cases hi:i<n
 ·rw [List.getElem?_range hi] at e
  cases e
  refine ⟨hi,fun v H' y=>?_⟩
  obtain ⟨rfl,rfl⟩:=y
  exact ⟨G1,.refl s2,.int _⟩
 ·rw [List.getElem?_eq_none (by simpa using hi)] at e
  cases e
theorem Cm (ha:PF X a ga):PIF X tg a (fun ρ=>ga ρ>>=bU):=by
 intro pins s σ H Rr I h
 obtain ⟨G,ρ,st,h⟩:=h
 have t:tF X ga σ H (fun x H1=>∃ G1 d,Same G1 H1/\Rep X.K G1 x d/\(bU d).post (Fin G1 H1 (fun G J items=>ItOk X.K G J items) Rr) (Exx X σ G1 H1)):=
  tG.intro st h fun x v G1 H1 u1 st1 r1 h1=>⟨G1,x,st1.sub,r1,h1⟩
 refine thn (ha pins s σ H _ I t) fun v s1 ⟨x,H1,I1,r1,G1,d,sub,rd,h1⟩=>?_
 cases rd with
 | lst hh r=>cases r1;exact zc I1 (.of (sub _ _ hh)) (h1 _ G1 H1 (.refl sub) (.list (.of hh) r))
 | fls hh r=>cases r1;exact zc I1 (hh.mono sub) (h1 _ G1 H1 (.refl sub) (.list hh r))
 | tup hh r=>cases r1;exact FL I1 (hh.mono sub) (h1 _ G1 H1 (.refl sub) (.tup hh r))
 | str y hy=>obtain ⟨t,rfl⟩:=r1;exact Gz I1 (h1 _ G1 H1 (.refl sub) (.str y))
 | _=>exact h1.elim
noncomputable def cu:List D->R (List D)
 | [.int j]=>if -(2 ^ 62)<=j/\j<2 ^ 62 then .ok ((List.range j.toNat).map fun i=>.int (0+(i:Nat))) else .no
 | _=>.no
noncomputable def iu:List D->R (List D)
 | [.int i,.int j]=>if -(2 ^ 62)<=i/\i<2 ^ 62/\-(2 ^ 62)<=j/\j<2 ^ 62 then .ok ((List.range (j - i).toNat).map fun k=>.int (i+(k:Nat))) else .no
 | _=>.no
theorem vn {p:Pos} (hg:Gl X "range") (hm:X.mg "range"=none) (ha:PFA X [a] gl) (hs:starEach [a] X.env=[(false,eval a X.env)]:=by rfl):PIF X tg (.Call (.Name "range" p) [a] [] pos) (fun ρ=>gl ρ>>=cu):=by
 intro pins s σ H Rr I h
 refine yS hg hm ha hs pins s σ H Rr I ?_
 obtain ⟨G,ρ,st,h⟩:=h
 refine tG.intro st h fun ds vs G1 H1 u1 st1 r1 h1=>?_
 unfold cu at h1
 split at h1
 ·split at h1
  ·rename_i hj
   obtain ⟨v,rfl,r⟩:=r1.one
   obtain rfl:=r.int_inv
   exact ⟨_,rfl,hj.1,hj.2,h1 _ G1 H1 (.refl st1.sub) (.range 0 _)⟩
  ·exact h1.elim
 ·exact h1.elim
theorem vH {b:Expr} {p:Pos} (hg:Gl X "range") (hm:X.mg "range"=none) (ha:PFA X [a,b] gl) (hs:starEach [a,b] X.env=[(false,eval a X.env),(false,eval b X.env)]:=by rfl) (hs2:starEach [b] X.env=[(false,eval b X.env)]:=by rfl) :
  PIF X tg (.Call (.Name "range" p) [a,b] [] pos) (fun ρ=>gl ρ>>=iu):=by
 intro pins s σ H Rr I h
 refine wN hg hm ha hs hs2 pins s σ H Rr I ?_
 obtain ⟨G,ρ,st,h⟩:=h
 refine tG.intro st h fun ds vs G1 H1 u1 st1 r1 h1=>?_
 unfold iu at h1
 split at h1
 ·split at h1
  ·rename_i hj
   obtain ⟨v,w,rfl,r,r'⟩:=r1.two
   obtain rfl:=r.int_inv
   obtain rfl:=r'.int_inv
   exact ⟨_,_,rfl,hj,h1 _ G1 H1 (.refl st1.sub) (.range _ _)⟩
  ·exact h1.elim
 ·exact h1.elim
end
noncomputable def ObSt (K:PySem.W.Frag) (H₀ G H:Hp) (σ:St) (ρ:Ev):Prop:=
 ∃ ow:jg,(∀ (i:Nat) ds l,ρ[i]?=some (some (.own ds))->σ[i]?=some (some (.ref l))->ow l=some (i,0))/\
  ∀ (i:Nat) m C p fs,ρ[i]?=some (some (.obj m C p fs))->σ[i]?=some (some (.ref p))/\ObjAt K H₀ G H ow i m C p fs
theorem ObSt.rd {K:PySem.W.Frag} {H₀:Hp} (h:ObSt K H₀ G H σ ρ):∀ (i:Nat) m C p fs,ρ[i]?=some (some (.obj m C p fs))->σ[i]?=some (some (.ref p))/\∃ ow,ObjAt K (fun _=>none) G H ow i m C p fs:=fun i m C p fs e=>by
 obtain ⟨ow,_,o2⟩:=h
 exact ⟨(o2 i m C p fs e).1,ow,(o2 i m C p fs e).2.rd⟩
noncomputable def NoOwn (ρ:Ev):Prop:=∀ (j:Nat) (x:Sl),ρ[j]?=some (some x)->∃ d,x=.val d
theorem NoOwn.own (h:NoOwn ρ) (j:Nat) (ds:List D):ρ[j]? ≠ some (some (.own ds)):=fun e=>by obtain ⟨d,z⟩:=h j _ e;cases z
theorem NoOwn.obj (h:NoOwn ρ) (j:Nat) (m:Bool) (C p:Addr) (fs:List (Nat×Fd)):ρ[j]? ≠ some (some (.obj m C p fs)):=fun e=>by obtain ⟨d,z⟩:=h j _ e;cases z
theorem NoOwn.ob {K:PySem.W.Frag} {H₀:Hp} (h:NoOwn ρ):ObSt K H₀ G H σ ρ:=
 ⟨fun _=>none,fun i ds l e=>absurd e (h.own i ds),fun i m C p fs e=>absurd e (h.obj i m C p fs)⟩
structure StR (K:PySem.W.Frag) (G₀ H₀ G H:Hp) (σ:St) (ρ:Ev):Prop where
 e:StE K G H σ ρ
 sub0:Same G₀ H₀
 up:Up G₀ H₀ G H
 own:∀ (i:Nat) ds,ρ[i]?=some (some (.own ds))->∃ l vs,σ[i]?=some (some (.ref l))/\H l=some (.lst vs)/\G l=none/\H₀ l=none/\Reps K G vs ds
 inj:∀ (i j:Nat) ds es l,ρ[i]?=some (some (.own ds))->ρ[j]?=some (some (.own es))->σ[i]?=some (some (.ref l))->σ[j]?=some (some (.ref l))->i=j
 ob:ObSt K H₀ G H σ ρ
section
variable {K:PySem.W.Frag} {H₀ G':Hp}
theorem StR.ups (s:StR K G₀ H₀ G H σ ρ) (u:Up G H G' H'):StR K G₀ H₀ G' H' σ ρ:=⟨s.e.up u,s.sub0,s.up.trans u,(fun i ds e=>by
 obtain ⟨l,vs,h1,h2,h3,h4,h5⟩:=s.own i ds e
 refine ⟨l,vs,h1,u.hh _ _ h2,?_,h4,h5.mono u.gg⟩
 cases q:G' l with
 | none=>rfl
 | some o=>
  rcases u.fr l o q with z|z
  ·rw [h3] at z;cases z
  ·rw [h2] at z;cases z),s.inj,by
 obtain ⟨ow,o1,o2⟩:=s.ob
 exact ⟨ow,o1,fun i m C p fs e=>⟨(o2 i m C p fs e).1,(o2 i m C p fs e).2.keep (.up u)⟩⟩⟩
theorem StR.set (s:StR K G₀ H₀ G H σ ρ) (r:Rep K G v d) (i:Nat):StR K G₀ H₀ G H (σ.set i (some v)) (ρ.set i (some (.val d))):=by
 have get:∀ (j:Nat) x,(ρ.set i (some (.val d)))[j]?=some (some x)->(j=i/\x=.val d/\i<σ.length)\/(j≠i/\ρ[j]?=some (some x)/\(σ.set i (some v))[j]?=σ[j]?):=fun j x h=>by
  by_cases e:i=j
  ·subst e
   have hl:i<ρ.length:=by
    have:=(List.getElem?_eq_some_iff.mp h).1
    simpa using this
   rw [List.getElem?_set_self hl] at h
   exact .inl ⟨rfl,by injection (Option.some.inj h) with q;exact q.symm,by rw [s.e.len];exact hl⟩
  ·rw [List.getElem?_set_ne e] at h
   exact .inr ⟨fun z=>e z.symm,h,List.getElem?_set_ne e⟩
 have ob:ObSt K H₀ G H (σ.set i (some v)) (ρ.set i (some (.val d))):=by
  obtain ⟨ow,o1,o2⟩:=s.ob
  refine ⟨ow,fun j ds l h1 h2=>?_,fun j m C p fs h1=>?_⟩
  ·rcases get j _ h1 with ⟨_,e,_⟩|⟨_,e,e'⟩
   ·cases e
   ·exact o1 j ds l e (e' ▸ h2)
  ·rcases get j _ h1 with ⟨_,e,_⟩|⟨_,e,e'⟩
   ·cases e
   ·rw [e'];exact o2 j m C p fs e
 refine ⟨⟨s.e.sub,by simp [s.e.len],fun j d' h=>?_,ob.rd⟩,s.sub0,s.up,fun j ds h=>?_,fun j k ds es l h1 h2 h3 h4=>?_,ob⟩
 ·rcases get j _ h with ⟨rfl,e,hl⟩|⟨_,e,e'⟩
  ·cases e
   exact ⟨v,List.getElem?_set_self hl,r⟩
  ·rw [e'];exact s.e.val j d' e
 ·rcases get j _ h with ⟨_,e,_⟩|⟨_,e,e'⟩
  ·cases e
  ·rw [e'];exact s.own j ds e
 ·rcases get j _ h1 with ⟨_,e,_⟩|⟨_,e,e'⟩
  ·cases e
  ·rcases get k _ h2 with ⟨_,f,_⟩|⟨_,f,f'⟩
   ·cases f
   ·exact s.inj j k ds es l e f (e' ▸ h3) (f' ▸ h4)
end
noncomputable def PGF (X:Cx) (tg:Expr) (asg:D->Ev->R Ev):Prop:=PG X tg (fun v σ H Q=>∃ G₀ H₀ G ρ d ρ',StR X.K G₀ H₀ G H σ ρ/\Rep X.K G v d/\asg d ρ=.ok ρ'/\∀ σ',StR X.K G₀ H₀ G H σ' ρ'->Q σ' H)
section
noncomputable def lX (i:Nat):D->Ev->R Ev:=fun d ρ=>.ok (ρ.set i (some (.val d)))
theorem fj (i:Nat) (hN:X.N.Nodup) (hi:X.N[i]?=some x:=by rfl) (hx:Loc X.env.scope x:=by first|exact Or.inl rfl|exact Or.inr rfl)
 (hf:X.fn x=true\/X.env.scope.names.lookup x=some .local:=by first|exact .inl rfl|exact .inr rfl):PGF X (.Name x pos) (lX i):=by
 intro pins s σ H v u Q I r h
 obtain ⟨G₀,H₀,G,ρ,d,ρ',st,rd,e,q⟩:=h
 cases e
 exact gy hN hi hx hf pins s σ H v u Q I r (q _ (st.set rd i))
end
noncomputable def zm (K:PySem.W.Frag) (G H:Hp) (Q:VK):List D->Prop:=fun ds=>∀ l vs G' H',Up G H G' H'->H' l=none->Reps K G' vs ds->Q (.ref l) (upd H' l (.lst vs))
noncomputable def tL (X:Cx) (g:Ev->R (List D)):TE:=fun σ H Q=>∃ G ρ,StE X.K G H σ ρ/\(g ρ).post (zm X.K G H Q) (Exx X σ G H)
noncomputable def PFL (X:Cx) (e:Expr) (g:Ev->R (List D)):Prop:=PE X e (tL X g)
theorem uc {e:Expr} {g:Ev->R (List D)} (h:PFL X e g):PF X e (fun ρ=>g ρ>>=fun ds=>.ok (.lst false ds)):=by
 intro pins s σ H Q I hq
 refine h pins s σ H Q I ?_
 obtain ⟨G,ρ,st,hq⟩:=hq
 try dsimp only at hq
 refine ⟨G,ρ,st,?_⟩
 cases e:g ρ with
 | ok ds=>
  rw [e] at hq
  intro l vs G' H' u hl r
  exact hq _ _ _ (u.trans (.new u.sub hl)) (.lst aM (r.mono (.into (u.sub.free hl))))
 | ex C=>rw [e] at hq;exact hq
 | no=>rw [e] at hq;exact hq
theorem C6 (h:PFA X es gl):PFL X (.List es pos) (fun ρ=>gl ρ>>=fun ds=>if ds.length<=sizeLine then .ok ds else .no):=by
 intro pins s σ H Q I hq
 refine G9 h pins s σ H Q I ?_
 obtain ⟨G,ρ,st,hq⟩:=hq
 try dsimp only at hq
 refine ⟨G,ρ,st,?_⟩
 cases e:gl ρ with
 | ok ds=>
  rw [e] at hq
  intro vs G' H' u r
  simp only [R.ok_bind] at hq
  split at hq
  ·rename_i hz
   exact ⟨by rw [r.length];exact hz,fun p hp=>hq p vs G' H' u hp r⟩
  ·exact hq.elim
 | ex C=>rw [e] at hq;exact hq
 | no=>rw [e] at hq;exact hq
noncomputable def uX (env:Env):List (Str×NameKind)->List (Str×Addr)->List (Str×Addr)
 | [],cs=>cs
 | (n,k)::r,cs=>uX env r (if (k==.free)=true then (match env.cells.lookup n with|some c=>(n,c)::cs|none=>cs) else cs)
theorem uE {env:Env} {F:Str×NameKind->List (Str×Addr)->Sem (ForInStep (List (Str×Addr)))}
  (hF:∀ n k r,(k=NameKind.free->∃ c,env.cells.lookup n=some c)->F (n,k) r=pure (ForInStep.yield (if (k==.free)=true then (match env.cells.lookup n with|some c=>(n,c)::r|none=>r) else r))) :
  ∀ (l:List (Str×NameKind)) (cs:List (Str×Addr)),(∀ x∈l,x.2=.free->∃ c,env.cells.lookup x.1=some c)->forIn l cs F=pure (uX env l cs)
 | [],cs,_=>rfl
 | (n,k)::l,cs,h=>by
  rw [List.forIn_cons,hF n k cs (h (n,k) List.mem_cons_self),pure_bind]
  exact uE hF l _ fun y hy=>h y (List.mem_cons_of_mem _ hy)
theorem om {env:Env} (h:∀ x∈scope.names,x.2=.free->∃ c,env.cells.lookup x.1=some c):closureFor scope env=pure (uX env scope.names []):=by
 simp only [closureFor]
 rw [uE (env:=env) (fun n k r hk=>?_) scope.names [] h]
 ·rfl
 ·by_cases hf:(k==NameKind.free)=true
  ·obtain ⟨c,hc⟩:=hk (by simpa using hf)
   simp only [hf,if_true,cellOf,hc,pure_bind]
  ·simp only [hf,if_false]
   rfl
theorem uy {env:Env}:∀ (l:List (Str×NameKind)) (cs:List (Str×Addr)),(∀ x c,cs.lookup x=some c->env.cells.lookup x=some c)->∀ x c,(uX env l cs).lookup x=some c->env.cells.lookup x=some c
 | [],cs,h,x,c,e=>h x c e
 | (n,k)::l,cs,h,x,c,e=>by
  unfold uX at e
  refine uy l _ (fun y d ed=>?_) x c e
  split at ed
  ·split at ed
   ·rename_i c' hc'
    rw [List.lookup_cons] at ed
    split at ed
    ·rename_i q;rw [eq_of_beq q];rw [<- Option.some.inj ed];exact hc'
    ·exact h y d ed
   ·exact h y d ed
  ·exact h y d ed
theorem nP {env:Env}:∀ (l:List (Str×NameKind)) (cs:List (Str×Addr)) (x:Str),((∃ c,cs.lookup x=some c)\/((x,NameKind.free)∈l/\∃ c,env.cells.lookup x=some c))->∃ c,(uX env l cs).lookup x=some c
 | [],cs,x,h=>by
  rcases h with h|⟨h,_⟩
  ·exact h
  ·cases h
 | (n,k)::l,cs,x,h=>by
  unfold uX
  refine nP l _ x ?_
  rcases h with ⟨c,h⟩|⟨h,c,hc⟩
  ·left
   split
   ·split
    ·rename_i c' _
     rw [List.lookup_cons]
     split
     ·exact ⟨_,rfl⟩
     ·exact ⟨c,h⟩
    ·exact ⟨c,h⟩
   ·exact ⟨c,h⟩
  ·rcases List.mem_cons.mp h with e|h
   ·cases e
    left
    rw [if_pos (by rfl),hc]
    exact ⟨c,by simp [List.lookup_cons]⟩
   ·exact .inr ⟨h,c,hc⟩
noncomputable def cH (X:Cx) (N':List Str) (scope:Scope) (C:Addr) (s₂:Shared) (H₂:Hp) (fp:List Addr):Cx:=
 { X with N:=N',s₀:=s₂,H₀:=H₂,env:=compEnvC scope (uX X.env scope.names []) C X.env,outer:=X.stack,stack:=X.stack,ex:=fp,fn:=fun _=>false,pn:=[],xe:=fun _ _=>False }
noncomputable def fK {α:Type}:R α->R α
 | .ok a=>.ok a
 | _=>.no
noncomputable def hU (ix:List Nat) (ρ:Ev):Ev:=none::ix.map fun (i:Nat)=>match ρ[i]? with
 | some (some (.val d))=>some (.val d)
 | _=>none
noncomputable def hX (n:Nat) (ix:List Nat) (ρ:Ev):Ev:=List.replicate n none++ix.map fun (i:Nat)=>match ρ[i]? with
 | some (some (.val d))=>some (.val d)
 | _=>none
noncomputable def gD (asg:D->Ev->R Ev) (gt:Ev->R Bool) (ge:Ev->R D):List D->Ev->R (List D)
 | [],_=>.ok []
 | d::ds,ρ=>fK (asg d ρ)>>=fun ρ1=>fK (gt ρ1)>>=fun k=>if k=true then fK (ge ρ1)>>=fun x=>gD asg gt ge ds ρ1>>=fun xs=>.ok (x::xs) else gD asg gt ge ds ρ1
noncomputable def fM (gt:Ev->R Bool) (ge:Ev->R D):List D->Ev->R (List D):=gD (lX 0) gt ge
theorem jy {asg:D->Ev->R Ev} {gt:Ev->R Bool} {ge:Ev->R D}:∀ (ds:List D) (ρ:Ev),(∃ xs,gD asg gt ge ds ρ=.ok xs)\/gD asg gt ge ds ρ=.no
 | [],ρ=>.inl ⟨[],rfl⟩
 | d::ds,ρ=>by
  unfold gD
  cases asg d ρ with
  | ok ρ1=>
   simp only [fK,R.ok_bind]
   cases gt ρ1 with
   | ok k=>
    simp only [fK,R.ok_bind]
    cases k with
    | true=>
     simp only [if_true]
     cases ge ρ1 with
     | ok x=>
      simp only [fK,R.ok_bind]
      rcases jy (asg:=asg) ds ρ1 with ⟨xs,e⟩|e
      ·rw [e];exact .inl ⟨_,rfl⟩
      ·rw [e];exact .inr rfl
     | ex C=>exact .inr rfl
     | no=>exact .inr rfl
    | false=>simp only [Bool.false_eq_true,if_false];exact jy ds _
   | ex C=>exact .inr rfl
   | no=>exact .inr rfl
  | ex C=>exact .inr rfl
  | no=>exact .inr rfl
noncomputable def gm (gi:Ev->R (List D)) (ix:List Nat) (gt:Ev->R Bool) (ge:Ev->R D):Ev->R (List D):=fun ρ=>gi ρ>>=fun items=>fM gt ge items (hU ix ρ)>>=fun ds=>if ds.length<=sizeLine then .ok ds else .no
noncomputable def FA (n:Nat) (asg:D->Ev->R Ev) (gi:Ev->R (List D)) (ix:List Nat) (gt:Ev->R Bool) (ge:Ev->R D):Ev->R (List D):=fun ρ=>gi ρ>>=fun items=>gD asg gt ge items (hX n ix ρ)>>=fun ds=>if ds.length<=sizeLine then .ok ds else .no
noncomputable def PTs (X:Cx) (ifs:List Expr) (gt:Ev->R Bool):Prop:=∀ (pins:List (Addr×Obj)) (s:Shared) (σ:St) (H:Hp) (Q:Bool->Hp->Prop),Inv X pins σ H s->tTF X gt σ H Q->
 wpAny (model X.prog X.w) X.A (forIn ifs true fun c r=>if r=true then do let ok <- isTrue c X.env (eval c X.env);pure (ForInStep.yield ok) else pure (ForInStep.yield r)) (TP X pins σ Q) X.xe s
theorem gw:PTs X [] (fun _=>.ok true):=by
 intro pins s σ H Q I h
 obtain ⟨G,ρ,st,h⟩:=h
 exact wpAny_pure ⟨H,I,h true G H (.refl st.sub) rfl⟩
theorem CK {c:Expr} {gt:Ev->R Bool} (h:PB X c gt):PTs X [c] gt:=fun pins s σ H Q I q=>wpAny_tests_one (h pins s σ H Q I q)
theorem Un.sameBut {fs ex:List Addr} {h1 h2:Heap} (u:Un fs ex H H' h h1) (k:∀ b o,b≠C->h1.get? b=some o->h2.get? b=some o) (hC:h.objs.size<=C):Un fs ex H H' h h2:=by
 have ne:∀ b o,h.get? b=some o->b≠C:=fun b o e=>Nat.ne_of_lt (Nat.lt_of_lt_of_le (Heap.lt_size e) hC)
 exact ⟨fun b o e n hb hx=>k b o (ne b o e) (u.keep b o e n hb hx),fun b o e n hb hx=>let ⟨sl,q⟩:=u.slot b o e n hb hx;⟨sl,k b _ (ne b o e) q⟩,u.free,fun b o e hx=>let ⟨o',q⟩:=u.there b o e hx;⟨o',k b o' (ne b o e) q⟩,u.tups,u.frzs,u.tbls⟩
theorem HOk.sameBut {w:World} (x:HOk P w H h) (k:∀ b o,b≠C->h.get? b=some o->h'.get? b=some o) (hC:H C=none):HOk P w H h':=fun a o e=>by
 refine (x a o e).stay (fun b u hb q=>k b u ?_ q) (fun _ z=>z) (fun _ _ z=>z)
 rcases hb with rfl|hb
 ·exact aJ e hC
 ·exact aJ hb hC
section
variable {elt:Expr} {ifs:List Expr} {px:Pos} {N':List Str} {gt:Ev->R Bool}
structure CompOk (X:Cx) (scope:Scope) (x:Str) (N':List Str) (ix:List Nat):Prop where
 kind:scope.kind=.function
 cell:∀ y∈scope.names,y.2 ≠ .cell
 names:∀ y∈scope.names,y.2=.local->scope.names.lookup y.1=some .local
 loc:scope.names.lookup x=some .local
 fr:∀ y∈scope.names,y.2=.free->X.env.kindOf y.1=some .cell
 nd:N'.Nodup
 hd:N'[0]?=some x
 tl:N'.tail=ix.map fun (i:Nat)=>X.N.getD i Str.empty
 lt:∀ i∈ix,i<X.N.length
 fre:∀ y∈N'.tail,scope.names.lookup y=some .free/\(y,NameKind.free)∈scope.names
structure CompOkT (X:Cx) (scope:Scope) (n:Nat) (N':List Str) (ix:List Nat):Prop where
 kind:scope.kind=.function
 cell:∀ y∈scope.names,y.2 ≠ .cell
 names:∀ y∈scope.names,y.2=.local->scope.names.lookup y.1=some .local
 fr:∀ y∈scope.names,y.2=.free->X.env.kindOf y.1=some .cell
 le:n<=N'.length
 tl:N'.drop n=ix.map fun (i:Nat)=>X.N.getD i Str.empty
 lt:∀ i∈ix,i<X.N.length
 fre:∀ y∈N'.drop n,scope.names.lookup y=some .free/\(y,NameKind.free)∈scope.names
theorem CompOk.t (ok:CompOk X scope x N' ix):CompOkT X scope 1 N' ix:=
 ⟨ok.kind,ok.cell,ok.names,ok.fr,(List.getElem?_eq_some_iff.mp ok.hd).1,List.drop_one ▸ ok.tl,ok.lt,List.drop_one ▸ ok.fre⟩
theorem jC {env:Env} (hk:env.scope.kind=.function):∀ {names:List (Str×NameKind)} {x:Str},names.lookup x=some .free->env.kindOf x=some .cell->
  (names.map fun (n,k)=>if (k==NameKind.free && env.scope.kind==.function && env.kindOf n==some .cell) then (n,NameKind.cell) else (n,k)).lookup x=some .cell
 | [],_,h,_=>by simp at h
 | (n,k)::r,x,h,hc=>by
  have ih:=@jC env hk r x
  show List.lookup x ((if (k==NameKind.free && env.scope.kind==.function && env.kindOf n==some .cell)=true then (n,NameKind.cell) else (n,k))::_)=_
  cases hx:x==n with
  | true=>
   simp only [List.lookup_cons,hx] at h
   cases h
   have e:=eq_of_beq hx
   subst e
   rw [if_pos (by rw [hk,hc];rfl)]
   simp [List.lookup_cons]
  | false=>
   simp only [List.lookup_cons,hx] at h
   by_cases hc':(k==NameKind.free && env.scope.kind==.function && env.kindOf n==some .cell)=true
   ·rw [if_pos hc'];simp only [List.lookup_cons,hx];exact ih h hc
   ·rw [if_neg hc'];simp only [List.lookup_cons,hx];exact ih h hc
theorem xr {n:Nat} (h:(hX n ix ρ)[j]?=some (some (.val d))):∃ k i,j=k+n/\ix[k]?=some i/\ρ[i]?=some (some (.val d)):=by
 unfold hX at h
 by_cases hj:j<n
 ·rw [List.getElem?_append_left (by simpa using hj),List.getElem?_replicate,if_pos hj] at h;cases h
 ·rw [List.getElem?_append_right (by simpa using Nat.not_lt.1 hj),List.length_replicate,List.getElem?_map] at h
  cases e:ix[j - n]? with
  | none=>rw [e] at h;cases h
  | some i=>
   rw [e] at h
   refine ⟨j - n,i,by omega,e,?_⟩
   simp only [Option.map_some,Option.some.injEq] at h
   split at h
   ·rename_i d' e';cases h;exact e'
   ·cases h
noncomputable def fQ (n:Nat) (ix:List Nat) (σ:St):St:=List.replicate n none++ix.map fun (i:Nat)=>(σ[i]?).join
theorem kz {n:Nat}:NoOwn (hX n ix ρ):=fun j x h=>by
 unfold hX at h
 by_cases hj:j<n
 ·rw [List.getElem?_append_left (by simpa using hj),List.getElem?_replicate,if_pos hj] at h;cases h
 ·rw [List.getElem?_append_right (by simpa using Nat.not_lt.1 hj),List.length_replicate,List.getElem?_map] at h
  cases e:ix[j - n]? with
  | none=>rw [e] at h;cases h
  | some i=>
   rw [e] at h
   simp only [Option.map_some,Option.some.injEq] at h
   split at h
   ·cases h;exact ⟨_,rfl⟩
   ·cases h
theorem uh {K:PySem.W.Frag} (st:StE K G H σ ρ) (n:Nat) (ix:List Nat):StE K G H (fQ n ix σ) (hX n ix ρ):=by
 refine ⟨st.sub,by simp [hX,fQ],fun j d h=>?_,fun j m C p fs h=>absurd h (NoOwn.obj kz j m C p fs)⟩
 obtain ⟨k,i,rfl,e1,e2⟩:=xr h
 obtain ⟨v,h1,h2⟩:=st.val i d e2
 refine ⟨v,?_,h2⟩
 unfold fQ
 rw [List.getElem?_append_right (by simp),List.length_replicate,Nat.add_sub_cancel,List.getElem?_map,e1]
 simp [h1]
theorem zT {h₁:Heap} {tk:Nat} {m:Str->Option Value} {n:Nat} (ok:CompOkT X scope n N' ix) (hcalm:X.calm=true) (I:Inv X pins σ H s) (hf:∀ b∈fp,mE X pins H b) (hfl:∀ b∈fp,b<s.heap.objs.size)
 (hC:s.heap.objs.size<=C) (hn:h₁.Ns C m) (old:∀ b o,s.heap.get? b=some o->h₁.get? b=some o) (un:Un (frs X.stack) fp H H' s.heap h₁) (hok:HOk X.prog X.w H' h₁) (hfC:H' C=none) (hfc:∀ c:Addr,c<s.heap.objs.size->H c=none->H' c=none) :
  Inv (cH X N' scope C s H fp) [] (fQ n ix σ) H' { s with heap:=h₁,toks:=tk }:=by
 have cl:∀ y c,(uX X.env scope.names []).lookup y=some c->X.env.cells.lookup y=some c:=uy scope.names [] (fun y c h=>by simp at h)
 have nlt:N'.length=n+ix.length:=by
  have h1:=congrArg List.length ok.tl
  rw [List.length_drop,List.length_map] at h1
  have:=ok.le
  omega
 refine ⟨⟨I.ok.mod,by show (relabel scope X.env).kind=_;exact ok.kind,I.ok.glob,I.ok.blt,hC,?_,?_,?_,I.ok.hd,I.ok.frames,.inl rfl,?_,I.bs,Nat.le_trans I.ok.bsz I.sz,?_,?_,I.stack,I.stkFree,I.ok.tabs.un I.base⟩,rfl,I.bare,un,?_,?_,hfC,?_,?_,hok,?_⟩
 ·intro y z c h1 h2
  exact I.ok.inj y z c (cl y c h1) (cl z c h2)
 ·intro y hy
  have h1:(y,NameKind.free)∈scope.names:=by
   have hy':(relabel scope X.env).names.lookup y=some .cell\/(relabel scope X.env).names.lookup y=some .free:=hy
   have mem:∀ k,(relabel scope X.env).names.lookup y=some k->(k=.cell\/k=.free)->(y,NameKind.free)∈scope.names:=fun k e hk=>by
    have hm:=PySem.mem_of_lookup e
    obtain ⟨⟨n,k'⟩,hm1,hm2⟩:=List.mem_map.mp hm
    dsimp only at hm2
    split at hm2
    ·rename_i hc
     cases hm2
     have:k'=.free:=by
      have:=(Bool.and_eq_true _ _ ▸ (Bool.and_eq_true _ _ ▸ hc).1).1
      simpa using this
     rw [<- this];exact hm1
    ·cases hm2
     rcases hk with rfl|rfl
     ·exact absurd rfl (ok.cell _ hm1)
     ·exact hm1
   rcases hy' with h|h
   ·exact mem _ h (.inl rfl)
   ·exact mem _ h (.inr rfl)
  have hc:=I.ok.has y (.inl (ok.fr _ h1 rfl))
  exact nP scope.names [] y (.inr ⟨h1,hc⟩)
 ·intro y c hfn;cases hfn
 ·intro b hb
  obtain ⟨f0,f1,f2,f3,f4,f5⟩:=hf b hb
  exact ⟨fun z=>absurd (hfl b hb) (by rw [z];exact Nat.not_lt.mpr hC),fun y c h=>f4 y c (cl y c h)⟩
 ·intro b o e hb
  obtain ⟨f0,f1,f2,f3,f4,f5⟩:=hf b hb
  rcases f3 with f3|f3
  ·exact I.ok.noex b o e f3
  ·exact absurd (Heap.lt_size (I.ok.bs b o e).1) (Nat.not_lt.mpr f3)
 ·intro b hb hb'
  obtain ⟨f0,f1,f2,f3,f4,f5⟩:=hf b hb
  rcases List.mem_cons.mp (I.stkSub b hb') with e|e
  ·exact f1 e
  ·exact f2 e
 ·refine ⟨m,hn,fun i y v h1 h2 h3=>?_⟩
  have h1:N'[i]?=some y:=h1
  have h2:(fQ n ix σ)[i]?=some (some v):=h2
  by_cases hi:i<n
  ·unfold fQ at h2
   rw [List.getElem?_append_left (by simpa using hi),List.getElem?_replicate,if_pos hi] at h2;cases h2
  ·unfold fQ at h2
   rw [List.getElem?_append_right (by simpa using Nat.not_lt.1 hi),List.length_replicate,List.getElem?_map] at h2
   cases e:ix[i - n]? with
   | none=>rw [e] at h2;cases h2
   | some i0=>
    rw [e] at h2
    have h2':σ[i0]?=some (some v):=by
     cases q:σ[i0]? with
     | none=>rw [Option.map_some,q] at h2;cases h2
     | some z=>rw [Option.map_some,q] at h2;have:=Option.some.inj h2;rw [<- this];rfl
    have ht:(N'.drop n)[i - n]?=some y:=by rw [List.getElem?_drop,Nat.add_sub_cancel' (Nat.not_lt.1 hi)];exact h1
    have hy:X.N[i0]?=some y:=by
     have ht2:=ht
     rw [ok.tl,List.getElem?_map,e] at ht2
     have hl:=ok.lt i0 (List.mem_of_getElem? e)
     have q:=Option.some.inj ht2
     rw [List.getElem?_eq_getElem hl]
     rw [<- q]
     show some X.N[i0]=some (X.N.getD i0 Str.empty)
     rw [List.getD_eq_getElem?_getD,List.getElem?_eq_getElem hl]
     rfl
    obtain ⟨fr1,fr2⟩:=ok.fre y (List.mem_of_getElem? ht)
    have kc:=ok.fr _ fr2 rfl
    obtain ⟨m0,hn0,hl⟩:=I.loc
    obtain ⟨u,ru,lk⟩:=hl i0 y v hy h2' (.inr (.inl kc))
    refine ⟨u,ru,.inr ⟨.inl (jC I.ok.kind fr1 kc),?_⟩⟩
    rcases lk with ⟨z,_⟩|⟨_,c,hc,hcell⟩
    ·rw [kc] at z;cases z
    ·obtain ⟨c',hc'⟩:=nP scope.names [] y (.inr ⟨fr2,c,hc⟩)
     have:=cl y c' hc'
     rw [hc] at this
     cases this
     exact ⟨c,hc',hcell.keeps old⟩
 ·intro y c h
  obtain ⟨v,q⟩:=I.cell y c (cl y c h)
  exact ⟨v,q.keeps old⟩
 ·intro y c h
  obtain ⟨v,q⟩:=I.cell y c (cl y c h)
  exact hfc c q.lt (I.freeC y c (cl y c h))
 ·intro p hp
  exact absurd (show p∈([]:List (Addr×Obj)) from hp) (by simp)
 ·show (fQ n ix σ).length=N'.length
  rw [nlt];simp [fQ]
theorem vA {prog:Program} {w:World} {A:Around} {R':Result->Shared->Prop} {elt target:Expr} {ifs:List Expr} {it acc:Value} {env:Env} (I:Nat->Shared->Prop)
 (turn:∀ n s,I n s->wpAny (model prog w) A (pyNext it) (fun r s₁=>match r with
 | none=>R' (.ok .next) s₁
 | some v=>wpAny (model prog w) A (letOwnedTupleGo target it v) (fun _ s₁'=>wpAny (model prog w) A (assign target env v) (fun _ s₂=>
 wpAny (model prog w) A (forIn ifs true fun c r=>if r=true then do let ok <- isTrue c env (eval c env);pure (ForInStep.yield ok) else pure (ForInStep.yield r)) (fun ok s₃=>
 if ok=true then wpAny (model prog w) A (eval elt env) (fun x s₄=>
 wpAny (model prog w) A (call (.builtin "list.append") [acc,x]) (fun _ s₅=>∃ m,m<n/\I m s₅) (fun _ _=>False) s₄) (fun _ _=>False) s₃
 else ∃ m,m<n/\I m s₃) (fun _ _=>False) s₂) (fun _ _=>False) s₁') (fun _ _=>False) s₁) (fun _ _=>False) s)
 (n:Nat) (h:I n s) :
  codeAny (model prog w) A (.compLoop (.ListComp elt [⟨target,iter,ifs,0⟩] scope pos) 0 it acc env) R' s:=by
 refine codeAny_loop rfl I (fun n s hI=>?_) n h
 show wpAny _ A ((compTurn (.ListComp elt [⟨target,iter,ifs,0⟩] scope pos) 0 it acc env).onRaise (fun x=>do noteFrame x env;theTreesLotGoes x)) _ _ s
 refine wpAny_noted ?_
 rw [compTurn_list]
 refine wpAny_bind (wpAny_standAt (wpAny_bind (wpAny_mono (turn n s hI) (fun r s₁ h₁=>?_) fun _ _ z=>z.elim)))
 cases r with
 | none=>exact wpAny_pure h₁
 | some v=>
  refine wpAny_bind (wpAny_mono h₁ (fun _ s₁' h₁'=>?_) fun _ _ z=>z.elim)
  refine wpAny_bind (wpAny_mono h₁' (fun _ s₂ h₂=>wpAny_bind (wpAny_mono h₂ (fun ok s₃ h₃=>?_) fun _ _ z=>z.elim)) fun _ _ z=>z.elim)
  cases ok with
  | false=>exact wpAny_pure ⟨rfl,h₃⟩
  | true=>
   exact wpAny_bind (wpAny_bind (wpAny_mono h₃ (fun x s₄ h₄=>wpAny_bind (wpAny_mono h₄ (fun _ s₅ h₅=>wpAny_pure (wpAny_pure ⟨rfl,h₅⟩)) fun _ _ z=>z.elim)) fun _ _ z=>z.elim))
theorem zt:∀ d ρ ρ',lX i d ρ=.ok ρ'->NoOwn ρ->NoOwn ρ':=by
 intro d ρ ρ' e h j x q
 have e':ρ.set i (some (.val d))=ρ':=R.ok.inj e
 rw [<- e',List.getElem?_set] at q
 split at q
 ·split at q
  ·cases q;exact ⟨d,rfl⟩
  ·cases q
 ·exact h j x q
theorem sN {tgt : Expr} {n : Nat} {tn : Nat -> Heap -> Prop} {J : It} {items : List D} {Q : VK} {RR : Value -> Addr -> Result -> Shared -> Prop} {E : Value -> Shared -> Prop} (ok : CompOkT X scope n N' ix) (hcalm : X.calm = true) (hg : ∀ C s₂ H₂ fp, PGF (cH X N' scope C s₂ H₂ fp) tgt asg) (hown : ∀ d ρ ρ', asg d ρ = .ok ρ' -> (NoOwn ρ) -> NoOwn ρ')
 (he : ∀ C s₂ H₂ fp, PF (cH X N' scope C s₂ H₂ fp) elt ge) (ht : ∀ C s₂ H₂ fp, PTs (cH X N' scope C s₂ H₂ fp) ifs gt)
 (I : Inv X pins σ H s) (T : Turn X.prog X.w X.K tgt J fp it tn) (st0 : tn 0 s.heap) (hf : ∀ b ∈ fp, mE X pins H b) (st : StE X.K G H σ ρ) (hi : ItOk X.K G J items)
 (h : (gD asg gt ge items (hX n ix ρ) >>= fun ds => if ds.length <= sizeLine then R.ok ds else .no).post (zm X.K G H Q) (Exx X σ G H))
 (hR : ∀ (Dd C : Addr) (s' : Shared) (m : Str -> Option Value) (vs : List V) (G' H' : Hp), Up G H G' H' -> H' Dd = none -> C ≠ Dd -> (∀ ds, Reps X.K G' vs ds -> True) -> Q (.ref Dd) (upd H' Dd (.lst vs)) -> s'.heap.Ns C m -> s'.os = s.os -> AllBare s'.gens -> H' C = none -> s.heap.objs.size <= C ->
 Un (frs X.stack) fp H (upd H' Dd (.lst vs)) s.heap s'.heap -> HOk X.prog X.w (upd H' Dd (.lst vs)) s'.heap -> RR (.ref Dd) C (.ok .next) s') :
    wpAny (model X.prog X.w) X.A (newList []) (fun acc s₃ => wpAny (model X.prog X.w) X.A (newFunctionEnv scope X.env.globals (uX X.env scope.names []) [] X.env.qual none .none (some X.env)) (fun cenv s₄ =>
      codeAny (model X.prog X.w) X.A (.compStart (.ListComp elt [⟨tgt, iter, ifs, 0⟩] scope pos) 0 (.ref it) acc { cenv with scope := relabel scope X.env }) (RR acc cenv.locals) s₄) E s₃) E s := by
  have hfl : ∀ b ∈ fp, b < s.heap.objs.size := fun b hb => let ⟨o, e, _⟩ := T.obj 0 s.heap st0 b hb; Heap.lt_size e
  refine wpAny_newObj_type (wpAny_newFunctionEnv ok.cell (by intro y hy; simp at hy) (fun h₁ hns₁ hsb₁ => ?_) ok.kind)
  dsimp only at hns₁ hsb₁ ⊢
  generalize hH2 : s.heap.push { cls := .type "list", dict := none, data := .seq ([] : List Value).toArray } = Hq at hns₁ hsb₁ ⊢
  have hC : Hq.objs.size = s.heap.objs.size + 1 := by rw [<- hH2, Heap.size_push]
  have hDC : s.heap.objs.size ≠ Hq.objs.size := by rw [hC]; exact Nat.ne_of_lt (Nat.lt_succ_self _)
  have hCle : s.heap.objs.size <= Hq.objs.size := by rw [hC]; exact Nat.le_succ _
  have old : ∀ b o, s.heap.get? b = some o -> h₁.get? b = some o := fun b o e =>
    hsb₁.extBut b o (by rw [hC]; exact Nat.ne_of_lt (Nat.lt_succ_of_lt (Heap.lt_size e))) (Heap.get?_push_of_some _ (hH2 ▸ Heap.get?_push_of_some _ e))
  have hacc : h₁.get? s.heap.objs.size = some { cls := .type "list", data := .seq ([] : List Value).toArray } := hsb₁.extBut _ _ hDC (Heap.get?_push_of_some _ (hH2 ▸ Heap.get?_push_size _ rfl))
  have hD0 : H s.heap.objs.size = none := I.fresh
  have hC0 : H Hq.objs.size = none := I.hok.fresh hCle
  have st0' : tn 0 h₁ := T.keep 0 _ _ st0 fun b hb o e => old b o e
  -- the block's state at its beginning
  have I0 : ∀ tk, Inv (cH X N' scope Hq.objs.size s H fp) [] (fQ n ix σ) (upd H s.heap.objs.size (.lst [])) { s with heap := h₁, toks := tk } := fun tk => by
    refine zT ok hcalm I hf hfl hCle hns₁ old (Un.laid old (Nat.le_refl _) hD0) (I.hok.laid old (Nat.le_refl _) ⟨Nat.zero_le _, [], 0, .nil, hacc⟩) (by rw [aC hDC.symm]; exact hC0) fun c hc e => ?_
    rw [aC (Nat.ne_of_lt hc)]; exact e
  have loop : ∀ tk, codeAny (model X.prog X.w) X.A (.compLoop (.ListComp elt [⟨tgt, iter, ifs, 0⟩] scope pos) 0 (.ref it) (.ref s.heap.objs.size) (compEnvC scope (uX X.env scope.names []) Hq.objs.size X.env))
      (RR (.ref s.heap.objs.size) Hq.objs.size) { s with heap := h₁, toks := tk } := fun tk => by
    have fpk : ∀ {pins' : List (Addr × Obj)} {σ' : St} {H' : Hp} {s' : Shared}, Inv (cH X N' scope Hq.objs.size s H fp) pins' σ' H' s' -> pins' = [] -> (∀ b ∈ fp, H' b = none) -> ∀ b ∈ fp, mE (cH X N' scope Hq.objs.size s H fp) pins' H' b := fun I' e hn b hb =>
      ⟨hn b hb, (I'.ok.exf b hb).1, I'.ok.exfs b hb, .inl hb, (I'.ok.exf b hb).2, by subst e; intro p hp; exact absurd (show p ∈ ([] : List (Addr × Obj)) from hp) (by simp)⟩
    refine vA (fun nn s' => ∃ (i : Nat) (σ' : St) (G' H' : Hp) (ρ' : Ev) (vs : List V) (ys : List D), nn = items.length - i /\ i <= items.length /\ Inv (cH X N' scope Hq.objs.size s H fp) [] σ' H' s' /\ tn i s'.heap /\ (∀ b ∈ fp, H' b = none) /\
      H' s.heap.objs.size = some (.lst vs) /\ G' s.heap.objs.size = none /\ Up G H G' H' /\ StE X.K G' H' σ' ρ' /\ (NoOwn ρ') /\ Reps X.K G' vs ys /\
      (gD asg gt ge (items.drop i) ρ' >>= fun zs => if (ys ++ zs).length <= sizeLine then R.ok (ys ++ zs) else .no).post (zm X.K G H Q) (Exx X σ G H)) ?_ items.length
      ⟨0, fQ n ix σ, G, upd H s.heap.objs.size (.lst []), hX n ix ρ, [], [], by simp, Nat.zero_le _, I0 tk, st0', fun b hb => by rw [aC (Nat.ne_of_lt (hfl b hb))]; exact (hf b hb).1, aM, st.sub.free hD0,
        ⟨fun a o e => by rw [aC (aJ e (st.sub.free hD0))]; exact st.sub a o e, .refl _, .into hD0, fun _ _ e => .inl e⟩,
        ⟨fun a o e => by rw [aC (aJ e (st.sub.free hD0))]; exact st.sub a o e, (uh st n ix).len, (uh st n ix).val, fun j m C p fs h => absurd h (NoOwn.obj kz j m C p fs)⟩, kz, .nil, by simpa using h⟩
    rintro nn s' ⟨i, σ', G', H', ρ', vs, ys, rfl, hil, I', tn', fr', hD', gD', up', st', no', rp', h'⟩
    have hIt := hi i G' H' up'.gg st'.sub
    by_cases hlt : i < items.length
    · -- a turn
      have hd : items.drop i = items[i] :: items.drop (i + 1) := List.drop_eq_getElem_cons hlt
      rw [hd] at h'
      obtain ⟨go, yl⟩ := hIt.1 items[i] (by simp [hlt])
      refine wpAny_mono (T.item (cH X N' scope Hq.objs.size s H fp) rfl rfl rfl hcalm i [] s' σ' H' (fun _ _ => False) I' (fpk I' rfl fr') tn' go) (fun r s1 ⟨u, hr, h1⟩ => ?_) fun _ _ z => z
      subst hr
      refine wpAny_mono h1 (fun _ s2 ⟨x2, H2, I2, r2, y2, tn2, fr2⟩ => ?_) fun _ _ z => z
      obtain ⟨G2, up2, rep2⟩ := yl x2 H2 y2
      have I2p := I2.pinned (fpk I2 rfl fr2) (T.obj _ _ tn2)
      have st2 : StE X.K G2 H2 σ' ρ' := st'.up up2
      have sr2 : StR X.K G2 H2 G2 H2 σ' ρ' := ⟨st2, up2.sub, .refl up2.sub, fun j ds e => absurd e (no'.own j ds), fun j k ds es l e => absurd e (no'.own j ds), no'.ob⟩
      have ea : ∃ ρ1, asg items[i] ρ' = .ok ρ1 := by
        unfold gD at h'
        cases q : asg items[i] ρ' with
        | ok k => exact ⟨k, rfl⟩
        | _ => rw [q] at h'; exact h'.elim
      obtain ⟨ρ1, ea⟩ := ea
      unfold gD at h'
      rw [ea] at h'
      simp only [fK, R.ok_bind] at h'
      refine wpAny_mono (hg Hq.objs.size s H fp _ s2 σ' H2 x2 u (fun σ3 H3 => H3 = H2 /\ StR X.K G2 H2 G2 H2 σ3 ρ1) I2p r2
        ⟨G2, H2, G2, ρ', items[i], _, sr2, rep2, ea, fun σ3 q => ⟨rfl, q⟩⟩) (fun _ s3 ⟨σ3, H3, I3, e3, sr3⟩ => ?_) fun _ _ z => z
      subst e3
      have no3 := hown _ _ _ ea no'
      have hD2 : H3 s.heap.objs.size = some (.lst vs) := up2.hh _ _ hD'
      have gD2 : G2 s.heap.objs.size = none := by
        cases q : G2 s.heap.objs.size with
        | none => rfl
        | some o =>
          rcases up2.fr _ _ q with z | z
          · rw [gD'] at z; cases z
          · rw [hD'] at z; cases z
      -- the tests
      have ek : ∃ k, gt ρ1 = .ok k := by
        cases q : gt ρ1 with
        | ok k => exact ⟨k, rfl⟩
        | _ => rw [q] at h'; exact h'.elim
      obtain ⟨k, ek⟩ := ek
      rw [ek] at h'
      simp only [fK, R.ok_bind] at h'
      refine wpAny_mono (ht Hq.objs.size s H fp _ s3 σ3 H3 (fun b H4 => b = k /\ ∃ G4, Up G2 H3 G4 H4) I3 ⟨G2, _, sr3.e, by rw [ek]; exact fun b G4 H4 u4 e4 => ⟨e4, G4, u4⟩⟩) (fun b s4 ⟨H4, I4, eb, G4, up4⟩ => ?_) fun _ _ z => z
      subst eb
      have next : ∀ {H7 : Hp} {s7 : Shared} {G7 : Hp} {vs7 : List V} {ys7 : List D}, Inv (cH X N' scope Hq.objs.size s H fp) ([] ++ qi fp s2.heap) σ3 H7 s7 -> H7 s.heap.objs.size = some (.lst vs7) -> G7 s.heap.objs.size = none -> Up G H G7 H7 -> StE X.K G7 H7 σ3 ρ1 -> Reps X.K G7 vs7 ys7 ->
          (gD asg gt ge (items.drop (i + 1)) ρ1 >>= fun zs => if (ys7 ++ zs).length <= sizeLine then R.ok (ys7 ++ zs) else .no).post (zm X.K G H Q) (Exx X σ G H) ->
          ∃ m, m < items.length - i /\ ∃ (i : Nat) (σ' : St) (G' H' : Hp) (ρ' : Ev) (vs : List V) (ys : List D), m = items.length - i /\ i <= items.length /\ Inv (cH X N' scope Hq.objs.size s H fp) [] σ' H' s7 /\ tn i s7.heap /\ (∀ b ∈ fp, H' b = none) /\
            H' s.heap.objs.size = some (.lst vs) /\ G' s.heap.objs.size = none /\ Up G H G' H' /\ StE X.K G' H' σ' ρ' /\ (NoOwn ρ') /\ Reps X.K G' vs ys /\
            (gD asg gt ge (items.drop i) ρ' >>= fun zs => if (ys ++ zs).length <= sizeLine then R.ok (ys ++ zs) else .no).post (zm X.K G H Q) (Exx X σ G H) := fun {H7 s7 G7 vs7 ys7} I7 hD7 gD7 up7 st7 rp7 h7 => by
        have pin : ∀ b ∈ fp, ∀ o, s2.heap.get? b = some o -> s7.heap.get? b = some o /\ H7 b = none := fun b hb o e => by
          have := I7.pin (b, o) (List.mem_append_right _ (List.mem_append_right _ (jn hb e)))
          exact ⟨this.1, this.2.1⟩
        refine ⟨items.length - (i + 1), by omega, i + 1, σ3, G7, H7, _, vs7, ys7, rfl, hlt, I7.unpinned, T.keep _ _ _ tn2 fun b hb o e => (pin b hb o e).1, fun b hb => ?_, hD7, gD7, up7, st7, no3, rp7, h7⟩
        obtain ⟨o, e, _⟩ := T.obj _ _ tn2 b hb
        exact (pin b hb o e).2
      have hD4 : H4 s.heap.objs.size = some (.lst vs) := up4.hh _ _ hD2
      have gD4 : G4 s.heap.objs.size = none := by
        cases q : G4 s.heap.objs.size with
        | none => rfl
        | some o =>
          rcases up4.fr _ _ q with z | z
          · rw [gD2] at z; cases z
          · rw [hD2] at z; cases z
      cases b with
      | false =>
        simp only [Bool.false_eq_true, if_false] at h' ⊢
        exact next I4 hD4 gD4 ((up'.trans up2).trans up4) (sr3.e.up up4) ((rp'.mono up2.gg).mono up4.gg) h'
      | true =>
        simp only [if_true] at h' ⊢
        have ex : ∃ y, ge ρ1 = .ok y := by
          cases q : ge ρ1 with
          | ok y => exact ⟨y, rfl⟩
          | _ => rw [q] at h'; exact h'.elim
        obtain ⟨y, ey⟩ := ex
        rw [ey] at h'
        simp only [fK, R.ok_bind] at h'
        refine wpAny_mono (he Hq.objs.size s H fp _ s4 σ3 H4 (fun v H5 => ∃ G5, Up G4 H4 G5 H5 /\ Rep X.K G5 v y) I4 ⟨G4, _, sr3.e.up up4, by rw [ey]; exact fun v G5 H5 u5 r5 => ⟨G5, u5, r5⟩⟩) (fun u5 s5 ⟨v5, H5, I5, r5, G5, up5, rep5⟩ => ?_) fun _ _ z => z
        have hD5 : H5 s.heap.objs.size = some (.lst vs) := up5.hh _ _ hD4
        have gD5 : G5 s.heap.objs.size = none := by
          cases q : G5 s.heap.objs.size with
          | none => rfl
          | some o =>
            rcases up5.fr _ _ q with z | z
            · rw [gD4] at z; cases z
            · rw [hD4] at z; cases z
        have ups := ((up'.trans up2).trans up4).trans up5
        rcases jy (asg := asg) (gt := gt) (ge := ge) (items.drop (i + 1)) ρ1 with ⟨zs, ez⟩ | ez
        · rw [ez] at h'
          simp only [R.ok_bind] at h'
          have hz : (ys ++ y :: zs).length <= sizeLine := by
            by_cases hz : (ys ++ y :: zs).length <= sizeLine
            · exact hz
            · rw [if_neg hz] at h'; exact h'.elim
          have hvl : vs.length < sizeLine := by
            rw [rp'.length]
            rw [List.length_append, List.length_cons] at hz
            omega
          refine wpAny_mono (lQ (X := cH X N' scope Hq.objs.size s H fp) _ s5 σ3 H5 (.ref s.heap.objs.size) [v5] (.ref s.heap.objs.size) [u5] (fun _ H6 => H6 = upd H5 s.heap.objs.size (.lst (vs ++ [v5]))) I5 rfl (.cons r5 .nil)
            ⟨_, vs, v5, rfl, rfl, hD5, hvl, rfl⟩) (fun _ s6 ⟨_, H6, I6, _, e6⟩ => ?_) fun _ _ z => z
          subst e6
          have sub6 : Same G5 (upd H5 s.heap.objs.size (.lst (vs ++ [v5]))) := fun a o e => by rw [aC (aJ e gD5)]; exact up5.sub a o e
          refine next I6 aM gD5 ⟨sub6, ups.gg, fun a o e => ?_, ups.fr⟩ ?_ (ys7 := ys ++ [y]) ((((rp'.mono up2.gg).mono up4.gg).mono up5.gg).append (.cons rep5 .nil)) ?_
          · rw [aC (aJ e hD0)]; exact ups.hh a o e
          · exact ⟨sub6, ((sr3.e.up up4).up up5).len, ((sr3.e.up up4).up up5).val, fun j m C p fs h => absurd h (no3.obj j m C p fs)⟩
          · rw [ez]
            simp only [R.ok_bind, List.append_assoc, List.singleton_append]
            exact h'
        · rw [ez] at h'; exact h'.elim
    · -- the end
      have hie : i = items.length := by omega
      subst hie
      rw [List.drop_length] at h'
      unfold gD at h'
      simp only [R.ok_bind, List.append_nil] at h'
      refine wpAny_mono (T.done (cH X N' scope Hq.objs.size s H fp) rfl rfl rfl hcalm items.length [] s' σ' H' (fun _ _ => False) I' (fpk I' rfl fr') tn' (hIt.2 (Nat.le_refl _))) (fun r s1 ⟨hr, I1⟩ => ?_) fun _ _ z => z
      subst hr
      have hz : ys.length <= sizeLine := by
        by_cases hz : ys.length <= sizeLine
        · exact hz
        · rw [if_neg hz] at h'; exact h'.elim
      rw [if_pos hz] at h'
      have eH : upd (fun a => if a = s.heap.objs.size then none else H' a) s.heap.objs.size (.lst vs) = H' := by
        funext a
        unfold upd
        by_cases e : a = s.heap.objs.size
        · subst e; rw [if_pos rfl]; exact hD'.symm
        · rw [if_neg e]
          show (if a = s.heap.objs.size then none else H' a) = _
          rw [if_neg e]
      have hn : (fun a => if a = s.heap.objs.size then none else H' a) s.heap.objs.size = none := by simp
      have upn : Up G H G' (fun a => if a = s.heap.objs.size then none else H' a) := by
        refine ⟨fun a o e => ?_, up'.gg, fun a o e => ?_, up'.fr⟩
        · have : a ≠ s.heap.objs.size := aJ e gD'
          simp only [this, if_false]; exact up'.sub a o e
        · have : a ≠ s.heap.objs.size := aJ e hD0
          simp only [this, if_false]; exact up'.hh a o e
      obtain ⟨m1, hm1, _⟩ := I1.loc
      refine hR s.heap.objs.size Hq.objs.size s1 m1 vs G' _ upn hn hDC.symm (fun _ _ => trivial) (h' _ vs G' _ upn hn rp') hm1 I1.os I1.bare ?_ hCle (by rw [eH]; exact I1.base) (by rw [eH]; exact I1.hok)
      have := I1.free
      show (if Hq.objs.size = s.heap.objs.size then none else H' Hq.objs.size) = none
      rw [if_neg hDC.symm]; exact this
  exact codeAny_compStart_list (loop _) (T.self X.A 0 _ _ _ st0' (loop _))

theorem vN {tn:Nat->Heap->Prop} {J:It} {items:List D} {Q:VK} {RR:Value->Addr->Result->Shared->Prop} {E:Value->Shared->Prop} (ok:CompOk X scope x N' ix) (hcalm:X.calm=true)
 (he:∀ C s₂ H₂ fp,PF (cH X N' scope C s₂ H₂ fp) elt ge) (ht:∀ C s₂ H₂ fp,PTs (cH X N' scope C s₂ H₂ fp) ifs gt)
 (I:Inv X pins σ H s) (T:Turn X.prog X.w X.K (.Name x px) J fp it tn) (st0:tn 0 s.heap) (hf:∀ b∈fp,mE X pins H b) (st:StE X.K G H σ ρ) (hi:ItOk X.K G J items)
 (h:(fM gt ge items (hU ix ρ)>>=fun ds=>if ds.length<=sizeLine then R.ok ds else .no).post (zm X.K G H Q) (Exx X σ G H))
 (hR:∀ (Dd C:Addr) (s':Shared) (m:Str->Option Value) (vs:List V) (G' H':Hp),Up G H G' H'->H' Dd=none->C≠Dd->(∀ ds,Reps X.K G' vs ds->True)->Q (.ref Dd) (upd H' Dd (.lst vs))->s'.heap.Ns C m->s'.os=s.os->AllBare s'.gens->H' C=none->s.heap.objs.size<=C->
 Un (frs X.stack) fp H (upd H' Dd (.lst vs)) s.heap s'.heap->HOk X.prog X.w (upd H' Dd (.lst vs)) s'.heap->RR (.ref Dd) C (.ok .next) s') :
  wpAny (model X.prog X.w) X.A (newList []) (fun acc s₃=>wpAny (model X.prog X.w) X.A (newFunctionEnv scope X.env.globals (uX X.env scope.names []) [] X.env.qual none .none (some X.env)) (fun cenv s₄=>
   codeAny (model X.prog X.w) X.A (.compStart (.ListComp elt [⟨.Name x px,iter,ifs,0⟩] scope pos) 0 (.ref it) acc { cenv with scope:=relabel scope X.env }) (RR acc cenv.locals) s₄) E s₃) E s:=
 sN (n:=1) (asg:=lX 0) ok.t hcalm (fun C s₂ H₂ fp=>fj (X:=cH X N' scope C s₂ H₂ fp) (pos:=px) 0 ok.nd ok.hd (.inl (lookup_relabel_local ok.loc)) (.inr (lookup_relabel_local ok.loc))) zt he ht I T st0 hf st hi h hR
theorem dk (ok:CompOk X scope x N' ix) (hcalm:X.calm=true) (hi:PIF X (.Name x px) iter gi) (he:∀ C s₂ H₂ fp,PF (cH X N' scope C s₂ H₂ fp) elt ge) (ht:∀ C s₂ H₂ fp,PTs (cH X N' scope C s₂ H₂ fp) ifs gt)
 (hs:∀ x,foldedSetIterable iter X.env x=pure x:=by intro _;rfl):PFL X (.ListComp elt [⟨.Name x px,iter,ifs,0⟩] scope pos) (gm gi ix gt ge):=by
 intro pins s σ H Q I h
 obtain ⟨G,ρ,st,h⟩:=h
 rw [eval_ListComp]
 refine wpAny_comprehension_free (use:=none) rfl hs (om fun y hy hy2=>I.ok.has y.1 (.inl (ok.fr y hy hy2))) ok.kind ok.names ?_
 have t:tG X (fun G J items=>ItOk X.K G J items) gi σ H (fun J H1=>∃ G1 items,Up G H G1 H1/\StE X.K G1 H1 σ ρ/\ItOk X.K G1 J items/\(fM gt ge items (hU ix ρ)>>=fun ds=>if ds.length<=sizeLine then R.ok ds else .no).post (zm X.K G H Q) (Exx X σ G H)):=by
  refine ⟨G,ρ,st,?_⟩
  unfold gm at h
  cases e:gi ρ with
  | ok items=>rw [e] at h;exact fun J G1 H1 u r=>⟨G1,items,u,st.up u,r,h⟩
  | ex C=>rw [e] at h;exact h
  | no=>rw [e] at h;exact h
 refine thn (hi pins s σ H _ I t) fun v s1 h1=>thn h1 fun itv s2 h2=>?_
 obtain ⟨it,fp,tn,J,H2,e,I2,T,st2,f2,G2,items,u2,sE2,iok,h2⟩:=h2
 subst e
 have h2':(fM gt ge items (hU ix ρ)>>=fun ds=>if ds.length<=sizeLine then R.ok ds else .no).post (zm X.K G2 H2 Q) (Exx X σ G2 H2):=
  h2.mono (fun ds q l vs G' H' u hl r=>q l vs G' H' (u2.trans u) hl r) fun C q=>q.up u2
 refine vN (iter:=iter) (pos:=pos) (RR:=fun acc C=>compPost (model X.prog X.w) X.A X.xe none (EP X pins σ Q) acc C) ok hcalm he ht I2 T st2 f2 sE2 iok h2' ?_
 intro Dd C s' m vs G' H' up hd hCD _ q hm hos hb hC hCl un hok
 refine ⟨m,hm,fun h' hs'=>?_⟩
 have I3:=I2.call' (H':=upd H' Dd (.lst vs)) (s':={ s' with heap:=h' }) (ch:=fp) hos (un.sameBut (fun b o hbc e=>hs'.extBut b o hbc e) hCl) (hok.sameBut (fun b o hbc e=>hs'.extBut b o hbc e) (by rw [aC hCD];exact hC)) hb fun b hb'=>by
  obtain ⟨f0,f1,f2',f3,f4,f5⟩:=f2 b hb'
  exact ⟨f3,f1,f4,f5⟩
 exact ⟨.ref Dd,_,I3,rfl,q⟩
end
inductive O where
 | nx (ρ:Ev)|rt (d:D)|re (d:D) (ρ:Ev)|bk (ρ:Ev)|ct (ρ:Ev)|ex (C:Addr) (ρ:Ev)|no
noncomputable def FlyS (X:Cx) (G₀ H₀:Hp) (ρ:Ev) (C:Addr) (e:Value) (s':Shared):Prop:=∃ σ H₁ pins s₁ a,e=.ref a/\Inv X pins σ H₁ s₁/\
 ((∃ G₁ h' vs,StR X.K G₀ H₀ G₁ H₁ σ ρ/\Heap.MadeExcOf s₁.heap h' a (.ref C) vs/\s'={ s₁ with heap:=h' })\/(∃ G' H',C9 X.prog X.w X.stack H₁ s₁ a C H' s'/\StR X.K G₀ H₀ G' H' σ ρ)\/
  ∃ G' H' L,X.env.frame=some L/\B2 X pins L H₁ s₁ a C H' s'/\StR X.K G₀ H₀ G' H' σ ρ)
theorem FlyS.of {H₀ G₁ H₁:Hp} {e:Value} (sr:StR X.K G₀ H₀ G₁ H₁ σ ρ) (f:Ki X σ G₁ H₁ C e s'):FlyS X G₀ H₀ ρ C e s':=by
 obtain ⟨pins,s₁,a,e,I,way⟩:=f
 refine ⟨σ,H₁,pins,s₁,a,e,I,?_⟩
 rcases way with ⟨h',vs,m,z⟩|⟨G',H',fl,u⟩|⟨G',H',L,hL,fl,u⟩
 ·exact .inl ⟨G₁,h',vs,sr,m,z⟩
 ·exact .inr (.inl ⟨G',H',fl,sr.ups u⟩)
 ·exact .inr (.inr ⟨G',H',L,hL,fl,sr.ups u⟩)
theorem FlyS.map {A B A' B':Hp} {ρ':Ev} {e:Value} (f:FlyS X A B ρ C e s') (h:∀ σ G H,StR X.K A B G H σ ρ->StR X.K A' B' G H σ ρ'):FlyS X A' B' ρ' C e s':=by
 obtain ⟨σ,H₁,pins,s₁,a,e,I,way⟩:=f
 refine ⟨σ,H₁,pins,s₁,a,e,I,?_⟩
 rcases way with ⟨G₁,h',vs,sr,m,z⟩|⟨G',H',fl,sr⟩|⟨G',H',L,hL,fl,sr⟩
 ·exact .inl ⟨G₁,h',vs,h _ _ _ sr,m,z⟩
 ·exact .inr (.inl ⟨G',H',fl,h _ _ _ sr⟩)
 ·exact .inr (.inr ⟨G',H',L,hL,fl,h _ _ _ sr⟩)
noncomputable def jj (X:Cx) (G₀ H₀:Hp) (D:Ends) (o:O):Prop:=match o with
 | .nx ρ=>∀ σ G H,StR X.K G₀ H₀ G H σ ρ->D.nx σ H
 | .rt d=>∀ v G H,Up G₀ H₀ G H->Rep X.K G v d->D.rt v H
 | .re d ρ=>∀ v σ G H,StR X.K G₀ H₀ G H σ ρ->Rep X.K G v d->D.rt v H
 | .bk ρ=>∀ σ G H,StR X.K G₀ H₀ G H σ ρ->D.bk σ H
 | .ct ρ=>∀ σ G H,StR X.K G₀ H₀ G H σ ρ->D.ct σ H
 | .ex C ρ=>∀ e s',FlyS X G₀ H₀ ρ C e s'->X.xe e s'
 | .no=>False
noncomputable def tS (X:Cx) (G₀ H₀:Hp) (g:Ev->O):TS:=fun D σ H=>∃ G ρ,StR X.K G₀ H₀ G H σ ρ/\jj X G₀ H₀ D (g ρ)
noncomputable def PSF (X:Cx) (st:Stmt) (g:Ev->O):Prop:=∀ G₀ H₀,PS X st (tS X G₀ H₀ g)
noncomputable def oJ (X:Cx) (st:List Stmt) (g:Ev->O):Prop:=∀ G₀ H₀,PSs X st (tS X G₀ H₀ g)
noncomputable def R.out {α:Type} (m:R α) (ρ:Ev) (k:α->O):O:=match m with
 | .ok a=>k a
 | .ex C=>.ex C ρ
 | .no=>.no
noncomputable def O.seq (o:O) (k:Ev->O):O:=match o with
 | .nx ρ=>k ρ
 | o=>o
section
variable {di body a b:List Stmt} {e c tg:Expr} {g g1 g2:Ev->O} {ga:Ev->R D} {gt:Ev->R Bool}
theorem Exx.of {H₀:Hp} {D:Ends} (sr:StR X.K G₀ H₀ G H σ ρ) (h:jj X G₀ H₀ D (.ex C ρ)):Exx X σ G H C:=fun e s' ⟨G1,H1,u,f⟩=>h e s' (.of (sr.ups u) f)
theorem yE:oJ X [] (fun ρ=>.nx ρ):=fun G₀ H₀ pins s σ H D I h=>by
 obtain ⟨G,ρ,sr,h⟩:=h
 try dsimp only at h
 exact D1 pins s σ H D I (h σ G H sr)
theorem vh (h1:PSF X st g1) (h2:oJ X di g2):oJ X (st::di) (fun ρ=>(g1 ρ).seq g2):=fun G₀ H₀ pins s σ H D I h=>by
 refine iH (h1 G₀ H₀) (h2 G₀ H₀) pins s σ H D I ?_
 obtain ⟨G,ρ,sr,h⟩:=h
 try dsimp only at h
 refine ⟨G,ρ,sr,?_⟩
 cases q:g1 ρ with
 | nx ρ'=>rw [q] at h;exact fun σ' G' H' sr'=>⟨G',ρ',sr',h⟩
 | rt d=>rw [q] at h;exact h
 | re d ρ'=>rw [q] at h;exact h
 | bk ρ'=>rw [q] at h;exact h
 | ct ρ'=>rw [q] at h;exact h
 | ex C ρ'=>rw [q] at h;exact h
 | no=>rw [q] at h;exact h
theorem AR (he:PF X e ga):PSF X (.Return (some e) pos) (fun ρ=>(ga ρ).out ρ .rt):=fun G₀ H₀ pins s σ H D I h=>by
 refine yu he pins s σ H D I ?_
 obtain ⟨G,ρ,sr,h⟩:=h
 try dsimp only at h
 refine ⟨G,ρ,sr.e,?_⟩
 cases q:ga ρ with
 | ok d=>rw [q] at h;exact fun v G' H' u r=>h v G' H' (sr.up.trans u) r
 | ex C=>rw [q] at h;exact Exx.of sr h
 | no=>rw [q] at h;exact h
theorem ym (he:PF X e ga) (hs:swapsWith e none pos.line X.env=pure false:=by rfl):PSF X (.Expr e pos) (fun ρ=>(ga ρ).out ρ fun _=>.nx ρ):=fun G₀ H₀ pins s σ H D I h=>by
 refine jx he hs pins s σ H D I ?_
 obtain ⟨G,ρ,sr,h⟩:=h
 try dsimp only at h
 refine ⟨G,ρ,sr.e,?_⟩
 cases q:ga ρ with
 | ok d=>rw [q] at h;exact fun v G' H' u r=>h σ G' H' (sr.ups u)
 | ex C=>rw [q] at h;exact Exx.of sr h
 | no=>rw [q] at h;exact h
theorem Cz (hc:PB X c gt) (ha:oJ X a g1) (hb:oJ X b g2):PSF X (.If c a b pos) (fun ρ=>(gt ρ).out ρ fun k=>if k=true then g1 ρ else g2 ρ):=fun G₀ H₀ pins s σ H D I h=>by
 refine IJ hc (ha G₀ H₀) (hb G₀ H₀) pins s σ H D I ?_
 obtain ⟨G,ρ,sr,h⟩:=h
 try dsimp only at h
 refine ⟨G,ρ,sr.e,?_⟩
 cases q:gt ρ with
 | ok k=>
  rw [q] at h
  intro b' G' H' u r
  subst r
  cases b' with
  | true=>rw [if_pos rfl];exact ⟨G',ρ,sr.ups u,by simpa [R.out] using h⟩
  | false=>rw [if_neg Bool.false_ne_true];exact ⟨G',ρ,sr.ups u,by simpa [R.out] using h⟩
 | ex C=>rw [q] at h;exact Exx.of sr h
 | no=>rw [q] at h;exact h
theorem zG (he:PF X e ga) (hg:PGF X tg asg) (hs:swapsWithSole [tg] e pos.line X.env=pure false:=by rfl) (hw:swappedStores [tg] e X.env=pure none:=by rfl)
 (hn:∀ d ρ C,asg d ρ ≠ .ex C:=by intro _ _ _ z;cases z) (h1:(assignEach [tg] X.env).map (·.2)=[assign tg X.env]:=by rfl):PSF X (.Assign [tg] e pos) (fun ρ=>(ga ρ).out ρ fun d=>(asg d ρ).out ρ .nx):=fun G₀ H₀ pins s σ H D I h=>by
 refine jc he hg hs hw h1 pins s σ H D I ?_
 obtain ⟨G,ρ,sr,h⟩:=h
 try dsimp only at h
 refine ⟨G,ρ,sr.e,?_⟩
 cases q:ga ρ with
 | ok d=>
  rw [q] at h
  simp only [R.out] at h
  intro v G' H' u r
  cases q2:asg d ρ with
  | ok ρ'=>rw [q2] at h;exact ⟨G₀,H₀,G',ρ,d,ρ',sr.ups u,r,q2,fun σ' sr'=>h σ' G' H' sr'⟩
  | ex C=>exact absurd q2 (hn d ρ C)
  | no=>rw [q2] at h;exact h.elim
 | ex C=>rw [q] at h;exact Exx.of sr h
 | no=>rw [q] at h;exact h
theorem Ab (i:Nat) {p:Pos} (hN:X.N.Nodup) (he:PF X e ga) (hi:X.N[i]?=some x:=by rfl) (hx:Loc X.env.scope x:=by first|exact Or.inl rfl|exact Or.inr rfl)
 (hs:swapsWithSole [.Name x p] e pos.line X.env=pure false:=by rfl) (hw:swappedStores [.Name x p] e X.env=pure none:=by rfl) (hf:X.fn x=true\/X.env.scope.names.lookup x=some .local:=by first|exact .inl rfl|exact .inr rfl) :
  PSF X (.Assign [.Name x p] e pos) (fun ρ=>(ga ρ).out ρ fun d=>.nx (ρ.set i (some (.val d)))):=zG he (fj i hN hi hx hf) hs hw
theorem StR.setOwn {K:PySem.W.Frag} {H₀:Hp} (s:StR K G₀ H₀ G H σ ρ) {l:Addr} (hl:H l=none) (r:Reps K G vs ds) (i:Nat) :
  StR K G₀ H₀ G (upd H l (.lst vs)) (σ.set i (some (.ref l))) (ρ.set i (some (.own ds))):=by
 have gl:G l=none:=s.e.sub.free hl
 have sub:Same G (upd H l (.lst vs)):=fun a o e=>by rw [aC (aJ e gl)];exact s.e.sub a o e
 have get:∀ (j:Nat) x,(ρ.set i (some (.own ds)))[j]?=some (some x)->(j=i/\x=.own ds/\i<σ.length)\/(j≠i/\ρ[j]?=some (some x)/\(σ.set i (some (.ref l)))[j]?=σ[j]?):=fun j x h=>by
  by_cases e:i=j
  ·subst e
   have hl:i<ρ.length:=by
    have:=(List.getElem?_eq_some_iff.mp h).1
    simpa using this
   rw [List.getElem?_set_self hl] at h
   exact .inl ⟨rfl,by injection (Option.some.inj h) with q;exact q.symm,by rw [s.e.len];exact hl⟩
  ·rw [List.getElem?_set_ne e] at h
   exact .inr ⟨fun z=>e z.symm,h,List.getElem?_set_ne e⟩
 have ob:ObSt K H₀ G (upd H l (.lst vs)) (σ.set i (some (.ref l))) (ρ.set i (some (.own ds))):=by
  obtain ⟨ow,o1,o2⟩:=s.ob
  have nl:∀ {a:Addr} {o:HO},H a=some o->a≠l:=fun e z=>by rw [z,hl] at e;cases e
  refine ⟨fun a=>if a=l then some (i,0) else ow a,fun j es l' h1 h2=>?_,fun j m C p fs h1=>?_⟩
  ·rcases get j _ h1 with ⟨rfl,e,hj⟩|⟨_,e,e'⟩
   ·rw [List.getElem?_set_self hj] at h2;cases h2;exact if_pos rfl
   ·rw [e'] at h2
    obtain ⟨l2,vs2,q1,q2,_⟩:=s.own j es e
    rw [h2] at q1;cases q1
    exact (if_neg (nl q2)).trans (o1 j es l' e h2)
  ·rcases get j _ h1 with ⟨_,e,_⟩|⟨_,e,e'⟩
   ·cases e
   ·rw [e']
    refine ⟨(o2 j m C p fs e).1,(o2 j m C p fs e).2.keep ⟨fun a t o _ q=>?_,.refl _,fun a t o _ _ n=>n,fun a t o q1 q2=>?_,fun a o _ _ n=>n⟩⟩
    ·rw [aC (nl q)];exact q
    ·exact (if_neg (nl q2)).trans q1
 refine ⟨⟨sub,by simp [s.e.len],fun j d' h=>?_,ob.rd⟩,s.sub0,⟨sub,s.up.gg,fun a o e=>?_,s.up.fr⟩,fun j es h=>?_,fun j k es fs l' h1 h2 h3 h4=>?_,ob⟩
 ·rcases get j _ h with ⟨_,e,_⟩|⟨_,e,e'⟩
  ·cases e
  ·rw [e'];exact s.e.val j d' e
 ·rw [aC (aJ (s.up.hh a o e) hl)];exact s.up.hh a o e
 ·rcases get j _ h with ⟨rfl,e,hj⟩|⟨_,e,e'⟩
  ·cases e
   exact ⟨l,vs,List.getElem?_set_self hj,aM,gl,s.up.hh.free hl,r⟩
  ·obtain ⟨l',vs',h1,h2,h3,h4,h5⟩:=s.own j es e
   exact ⟨l',vs',by rw [e'];exact h1,by rw [aC (aJ h2 hl)];exact h2,h3,h4,h5⟩
 ·rcases get j _ h1 with ⟨rfl,e,hj⟩|⟨nj,e,e'⟩
  ·rcases get k _ h2 with ⟨rfl,f,_⟩|⟨nk,f,f'⟩
   ·rfl
   ·obtain ⟨l2,vs2,q1,q2,_⟩:=s.own k fs f
    rw [List.getElem?_set_self hj] at h3
    rw [f',q1] at h4
    cases h3
    cases h4
    rw [hl] at q2;cases q2
  ·rcases get k _ h2 with ⟨rfl,f,hk⟩|⟨nk,f,f'⟩
   ·obtain ⟨l2,vs2,q1,q2,_⟩:=s.own j es e
    rw [List.getElem?_set_self hk] at h4
    rw [e',q1] at h3
    cases h3
    cases h4
    rw [hl] at q2;cases q2
   ·exact s.inj j k es fs l' e f (e' ▸ h3) (f' ▸ h4)
theorem Av (i:Nat) {p:Pos} (hN:X.N.Nodup) (he:PFL X e gl) (hi:X.N[i]?=some x:=by rfl) (hx:Loc X.env.scope x:=by first|exact Or.inl rfl|exact Or.inr rfl)
 (hs:swapsWithSole [.Name x p] e pos.line X.env=pure false:=by rfl) (hw:swappedStores [.Name x p] e X.env=pure none:=by rfl) (hf:X.fn x=true\/X.env.scope.names.lookup x=some .local:=by first|exact .inl rfl|exact .inr rfl) :
  PSF X (.Assign [.Name x p] e pos) (fun ρ=>(gl ρ).out ρ fun ds=>.nx (ρ.set i (some (.own ds)))):=fun G₀ H₀ pins s σ H D I h=>by
 refine jc he (gy (i:=i) hN hi hx hf) hs hw rfl pins s σ H D I ?_
 obtain ⟨G,ρ,sr,h⟩:=h
 try dsimp only at h
 refine ⟨G,ρ,sr.e,?_⟩
 cases q:gl ρ with
 | ok ds=>rw [q] at h;exact fun l vs G' H' u hl r=>h _ G' _ ((sr.ups u).setOwn hl r i)
 | ex C=>rw [q] at h;exact Exx.of sr h
 | no=>rw [q] at h;exact h
theorem StR.mut {K:PySem.W.Frag} {H₀:Hp} (s:StR K G₀ H₀ G H σ ρ) {l:Addr} {es:List D} (e:ρ[i]?=some (some (.own ds))) (hs:σ[i]?=some (some (.ref l))) (r:Reps K G vs es) :
  StR K G₀ H₀ G (upd H l (.lst vs)) σ (ρ.set i (some (.own es))):=by
 obtain ⟨l0,vs0,h1,h2,h3,h4,h5⟩:=s.own i ds e
 rw [hs] at h1
 cases h1
 have sub:Same G (upd H l (.lst vs)):=fun a o e=>by rw [aC (aJ e h3)];exact s.e.sub a o e
 have hl:i<ρ.length:=(List.getElem?_eq_some_iff.mp e).1
 have get:∀ (j:Nat) x,(ρ.set i (some (.own es)))[j]?=some (some x)->(j=i/\x=.own es)\/(j≠i/\ρ[j]?=some (some x)):=fun j x h=>by
  by_cases e:i=j
  ·subst e
   rw [List.getElem?_set_self hl] at h
   exact .inl ⟨rfl,by injection (Option.some.inj h) with q;exact q.symm⟩
  ·rw [List.getElem?_set_ne e] at h
   exact .inr ⟨fun z=>e z.symm,h⟩
 have ob:ObSt K H₀ G (upd H l (.lst vs)) σ (ρ.set i (some (.own es))):=by
  obtain ⟨ow,o1,o2⟩:=s.ob
  have ol:=o1 i ds l e hs
  refine ⟨ow,fun j fs l' q1 q2=>?_,fun j m C p fs q1=>?_⟩
  ·rcases get j _ q1 with ⟨rfl,_⟩|⟨nj,f1⟩
   ·exact o1 j ds l' e q2
   ·exact o1 j fs l' f1 q2
  ·rcases get j _ q1 with ⟨_,e'⟩|⟨nj,f1⟩
   ·cases e'
   ·have ne:∀ a t,ow a=some (j,t)->a≠l:=fun a t q z=>by rw [z,ol] at q;cases q;exact nj rfl
    refine ⟨(o2 j m C p fs f1).1,(o2 j m C p fs f1).2.keep ⟨fun a t o q1 q=>?_,.refl _,fun a t o _ _ n=>n,fun a t o q1 _=>q1,fun a o _ _ n=>n⟩⟩
    ·rw [aC (ne a t q1)];exact q
 refine ⟨⟨sub,by simp [s.e.len],fun j d' h=>?_,ob.rd⟩,s.sub0,⟨sub,s.up.gg,fun a o e=>?_,s.up.fr⟩,fun j fs h=>?_,fun j k fs gs l' q1 q2 q3 q4=>?_,ob⟩
 ·rcases get j _ h with ⟨_,e⟩|⟨_,e⟩
  ·cases e
  ·exact s.e.val j d' e
 ·rw [aC (aJ e h4)];exact s.up.hh a o e
 ·rcases get j _ h with ⟨rfl,e'⟩|⟨nj,e'⟩
  ·cases e'
   exact ⟨l,vs,hs,aM,h3,h4,r⟩
  ·obtain ⟨l',vs',p1,p2,p3,p4,p5⟩:=s.own j fs e'
   have:l'≠l:=fun z=>by subst z;exact nj (s.inj j i fs ds l' e' e p1 hs)
   exact ⟨l',vs',p1,by rw [aC this];exact p2,p3,p4,p5⟩
 ·rcases get j _ q1 with ⟨rfl,_⟩|⟨nj,f1⟩
  ·rcases get k _ q2 with ⟨rfl,_⟩|⟨nk,f2⟩
   ·rfl
   ·exact s.inj j k ds gs l' e f2 q3 q4
  ·rcases get k _ q2 with ⟨rfl,_⟩|⟨nk,f2⟩
   ·exact s.inj j k fs ds l' f1 e q3 q4
   ·exact s.inj j k fs gs l' f1 f2 q3 q4
noncomputable def frz (i:Nat) (ρ:Ev):Ev:=match ρ[i]? with
 | some (some (.own ds))=>ρ.set i (some (.val (.lst false ds)))
 | _=>ρ
theorem StR.frzTo {K:PySem.W.Frag} {H₀:Hp} (s:StR K G₀ H₀ G H σ ρ) (i:Nat):∃ G',StR K G₀ H₀ G' H σ (L2.frz i ρ)/\(G'=G\/∃ l vs,G l=none/\G'=upd G l (.lst vs)):=by
 unfold L2.frz
 split
 ·rename_i ds e
  obtain ⟨l,vs,h1,h2,h3,h4,h5⟩:=s.own i ds e
  have hl:i<ρ.length:=(List.getElem?_eq_some_iff.mp e).1
  have g0:G₀ l=none:=s.sub0.free h4
  have into:Same G (upd G l (.lst vs)):=.into h3
  have sub:Same (upd G l (.lst vs)) H:=fun a o q=>by
   by_cases ea:a=l
   ·subst ea;rw [aM] at q;rw [<- q];exact h2
   ·rw [aC ea] at q;exact s.e.sub a o q
  have get:∀ (j:Nat) x,(ρ.set i (some (.val (.lst false ds))))[j]?=some (some x)->(j=i/\x=.val (.lst false ds))\/(j≠i/\ρ[j]?=some (some x)):=fun j x h=>by
   by_cases e:i=j
   ·subst e
    rw [List.getElem?_set_self hl] at h
    exact .inl ⟨rfl,by injection (Option.some.inj h) with q;exact q.symm⟩
   ·rw [List.getElem?_set_ne e] at h
    exact .inr ⟨fun z=>e z.symm,h⟩
  have ob:ObSt K H₀ (upd G l (.lst vs)) H σ (ρ.set i (some (.val (.lst false ds)))):=by
   obtain ⟨ow,o1,o2⟩:=s.ob
   have ol:=o1 i ds l e h1
   refine ⟨ow,fun j fs l' q1 q2=>?_,fun j m C p fs q1=>?_⟩
   ·rcases get j _ q1 with ⟨_,e'⟩|⟨nj,f1⟩
    ·cases e'
    ·exact o1 j fs l' f1 q2
   ·rcases get j _ q1 with ⟨_,e'⟩|⟨nj,f1⟩
    ·cases e'
    ·have ne:∀ a t,ow a=some (j,t)->a≠l:=fun a t q z=>by rw [z,ol] at q;cases q;exact nj rfl
     refine ⟨(o2 j m C p fs f1).1,(o2 j m C p fs f1).2.keep ⟨fun a t o _ q=>q,into,fun a t o q1 _ n=>?_,fun a t o q1 _=>q1,fun a o _ _ n=>n⟩⟩
     ·rw [aC (ne a t q1)];exact n
  refine ⟨upd G l (.lst vs),⟨⟨sub,by simp [s.e.len],fun j d' h=>?_,ob.rd⟩,s.sub0,⟨sub,s.up.gg.trans into,s.up.hh,fun a o q=>?_⟩,fun j fs h=>?_,fun j k fs gs l' q1 q2 q3 q4=>?_,ob⟩,.inr ⟨l,vs,h3,rfl⟩⟩
  ·rcases get j _ h with ⟨rfl,e'⟩|⟨_,e'⟩
   ·cases e'
    exact ⟨.ref l,h1,.lst aM (h5.mono into)⟩
   ·obtain ⟨v,p1,p2⟩:=s.e.val j d' e'
    exact ⟨v,p1,p2.mono into⟩
  ·by_cases ea:a=l
   ·subst ea;exact .inr h4
   ·rw [aC ea] at q;exact s.up.fr a o q
  ·rcases get j _ h with ⟨_,e'⟩|⟨nj,e'⟩
   ·cases e'
   ·obtain ⟨l',vs',p1,p2,p3,p4,p5⟩:=s.own j fs e'
    have:l'≠l:=fun z=>by subst z;exact nj (s.inj j i fs ds l' e' e p1 h1)
    exact ⟨l',vs',p1,p2,by rw [aC this];exact p3,p4,p5.mono into⟩
  ·rcases get j _ q1 with ⟨_,e'⟩|⟨nj,f1⟩
   ·cases e'
   ·rcases get k _ q2 with ⟨_,e'⟩|⟨nk,f2⟩
    ·cases e'
    ·exact s.inj j k fs gs l' f1 f2 q3 q4
 ·exact ⟨G,s,.inl rfl⟩
theorem StR.frz {K:PySem.W.Frag} {H₀:Hp} (s:StR K G₀ H₀ G H σ ρ) (i:Nat):∃ G',StR K G₀ H₀ G' H σ (L2.frz i ρ):=
 let ⟨G',h,_⟩:=s.frzTo i;⟨G',h⟩
theorem yt {sts:List Stmt} (i:Nat) (h:oJ X sts g):oJ X sts (fun ρ=>g (frz i ρ)):=fun G₀ H₀ pins s σ H D I q=>by
 obtain ⟨G,ρ,sr,q⟩:=q
 obtain ⟨G',sr'⟩:=sr.frz i
 exact h G₀ H₀ pins s σ H D I ⟨G',_,sr',q⟩
noncomputable def ownAt (ρ:Ev) (i:Nat):R (List D):=match ρ[i]? with
 | some (some (.own ds))=>.ok ds
 | _=>.no
theorem ownAt.ok {k:List D->O} {D:Ends} {H₀:Hp} (h:jj X G₀ H₀ D ((ownAt ρ i).out ρ k)):∃ ds,ρ[i]?=some (some (.own ds))/\jj X G₀ H₀ D (k ds):=by
 unfold ownAt at h
 split at h
 ·rename_i ds e;exact ⟨ds,e,h⟩
 ·exact h.elim
theorem rg (i:Nat) {p ap cp:Pos} (he:PF X e ga) (hi:X.N[i]?=some x:=by rfl) (hv:Vis X.env.scope x:=by first|exact Or.inl rfl|exact Or.inr (Or.inl rfl))
 (hd:(x==("__debug__":Str))=false:=by decide) (hcd:(x==("__classdict__":Str))=false:=by decide) (hs1:starEach [e] X.env=(false,eval e X.env)::starEach [] X.env:=by rfl)
 (hbase:attributeBase (.Name x p) "append" X.env (eval (.Name x p) X.env)=eval (.Name x p) X.env:=by rfl)
 (hfew:((backTo cp (starEach [e] X.env)).all (fun x=>!x.1) && (backToKw cp (keywordEach [] X.env)).all (fun x=>x.1.isSome)
 && decide ([e].length+([]:List Keyword).length+(if ([]:List Keyword).isEmpty then 0 else 1)<30))=true:=by rfl)
 (hline:(ap.endLine==cp.line)=true:=by rfl)
 (hs:swapsWith (.Call (.Attribute (.Name x p) "append" ap) [e] [] cp) none pos.line X.env=pure false:=by rfl) :
  PSF X (.Expr (.Call (.Attribute (.Name x p) "append" ap) [e] [] cp) pos) (fun ρ=>(ownAt ρ i).out ρ fun ds=>(ga ρ).out ρ fun d=>if ds.length<sizeLine then .nx (ρ.set i (some (.own (ds++[d])))) else .no):=fun G₀ H₀ pins s σ H D I h=>by
 refine jx (Bp PySem.F.plainAttrs_list PySem.F.slot_list_append PySem.F.type_list_append lQ (dh hi hv hd hcd) (dJ he jb hs1) hbase hfew hline hs1 rfl) hs pins s σ H D I ?_
 obtain ⟨G,ρ,sr,h⟩:=h
 try dsimp only at h
 obtain ⟨ds,e1,h⟩:=ownAt.ok h
 obtain ⟨l,vs,h1,h2,h3,h4,h5⟩:=sr.own i ds e1
 refine ⟨.ref l,h1,.inl ⟨rfl,vs,.of h2⟩,G,ρ,sr.e,?_⟩
 cases q:ga ρ with
 | ok d=>
  rw [q] at h
  simp only [R.out] at h
  intro v G' H' u r
  by_cases hz:ds.length<sizeLine
  ·rw [if_pos hz] at h
   refine ⟨l,vs,v,rfl,rfl,u.hh _ _ h2,by rw [h5.length];exact hz,h _ G' _ ?_⟩
   exact (sr.ups u).mut e1 h1 ((h5.mono u.gg).append (.cons r .nil))
  ·rw [if_neg hz] at h;exact h.elim
 | ex C=>rw [q] at h;exact Exx.of sr h
 | no=>rw [q] at h;exact h
noncomputable def asL:D->R (List D)
 | .lst false xs=>.ok xs
 | _=>.no
noncomputable def cN (asg:D->Ev->R Ev) (g:Ev->O):List D->Ev->O
 | [],ρ=>.nx ρ
 | d::ds,ρ=>(asg d ρ).out ρ fun ρ1=>match g ρ1 with
  | .nx ρ2=>cN asg g ds ρ2
  | .ct ρ2=>cN asg g ds ρ2
  | .bk ρ2=>.nx ρ2
  | .rt d=>.rt d
  | .re d ρ2=>.re d ρ2
  | .ex C ρ2=>.ex C ρ2
  | .no=>.no
noncomputable def mix (H₀ G₁:Hp):Hp:=fun a=>match G₁ a with
 | some o=>some o
 | none=>H₀ a
theorem oS {H₀ G₁:Hp} {a:Addr} (h:mix H₀ G₁ a=none):G₁ a=none/\H₀ a=none:=by
 unfold mix at h
 cases q:G₁ a with
 | none=>rw [q] at h;exact ⟨rfl,h⟩
 | some o=>rw [q] at h;cases h
section
variable {K:PySem.W.Frag} {H₀ G₁ H₁:Hp}
theorem StR.to (s:StR K G₀ H₀ G₁ H₁ σ ρ):StR K G₁ (mix H₀ G₁) G₁ H₁ σ ρ:=by
 refine ⟨s.e,fun a o e=>?_,⟨s.e.sub,.refl _,fun a o e=>?_,fun _ _ e=>.inl e⟩,fun i ds e=>?_,s.inj,?_⟩
 ·unfold mix;rw [e]
 ·unfold mix at e
  cases q:G₁ a with
  | none=>rw [q] at e;exact s.up.hh a o e
  | some o'=>rw [q] at e;cases e;exact s.e.sub a o q
 ·obtain ⟨l,vs,h1,h2,h3,h4,h5⟩:=s.own i ds e
  exact ⟨l,vs,h1,h2,h3,by unfold mix;rw [h3];exact h4,h5⟩
 ·obtain ⟨ow,o1,o2⟩:=s.ob
  exact ⟨ow,o1,fun i m C p fs e=>⟨(o2 i m C p fs e).1,(o2 i m C p fs e).2.keep ⟨fun a t o _ q=>q,.refl _,fun a t o _ _ n=>n,fun a t o q1 _=>q1,fun a o _ g n=>by unfold mix;rw [g];exact n⟩⟩⟩
theorem Up.back (u:Up G₀ H₀ G₁ H₁) (v:Up G₁ (mix H₀ G₁) G H):Up G₀ H₀ G H:=by
 refine ⟨v.sub,u.gg.trans v.gg,fun a o e=>?_,fun a o e=>?_⟩
 ·cases q:G₁ a with
  | none=>exact v.hh a o (by unfold mix;rw [q];exact e)
  | some o'=>
   have h1:=u.sub a o' q
   have h2:=u.hh a o e
   rw [h1] at h2
   cases h2
   exact v.hh a o (by unfold mix;rw [q])
 ·rcases v.fr a o e with h|h
  ·exact u.fr a o h
  ·exact .inr (oS h).2
theorem StR.back (s0:Same G₀ H₀) (u:Up G₀ H₀ G₁ H₁) (s:StR K G₁ (mix H₀ G₁) G H σ ρ):StR K G₀ H₀ G H σ ρ:=
 ⟨s.e,s0,u.back s.up,fun i ds e=>let ⟨l,vs,h1,h2,h3,h4,h5⟩:=s.own i ds e;⟨l,vs,h1,h2,h3,(oS h4).2,h5⟩,s.inj,by
 obtain ⟨ow,o1,o2⟩:=s.ob
 exact ⟨ow,o1,fun i m C p fs e=>⟨(o2 i m C p fs e).1,(o2 i m C p fs e).2.keep ⟨fun a t o _ q=>q,.refl _,fun a t o _ _ n=>n,fun a t o q1 _=>q1,fun a o _ _ n=>(oS n).2⟩⟩⟩⟩
end
theorem zP (hp:PassesOwn (model X.prog X.w) X.A X.env X.xe) (hcalm:X.calm=true) (hi:PIF X tg iter gi) (hg:PGF X tg asg) (hb:oJ X body g)
 (hs:∀ x,foldedSetIterable iter X.env x=pure x:=by intro _;rfl) (hn:∀ d ρ C,asg d ρ ≠ .ex C:=by intro _ _ _ z;cases z):PSF X (.For tg iter body [] pos) (fun ρ=>(gi ρ).out ρ fun items=>cN asg g items ρ):=fun G₀ H₀ pins s σ H D I h=>by
 obtain ⟨G,ρ,sr,h⟩:=h
 try dsimp only at h
 cases q:gi ρ with
 | ok items=>
  rw [q] at h
  simp only [R.out] at h
  have key:∀ (J:It) (G1 H1:Hp),Up G H G1 H1->ItOk X.K G1 J items->∃ W:Nat->Nat->St->Hp->Prop,(∃ m,W 0 m σ H1)/\∀ i m σ H,W i m σ H->
    (J.stop i H/\D.nx σ H)\/(J.go i H/\∃ N:St->Hp->Prop,(∀ σ' H',N σ' H'->∃ m',m'<m/\W (i+1) m' σ' H')/\∀ x H',J.yld i H x H'->(fun v σ H Q=>∃ G₀ H₀ G ρ d ρ',StR X.K G₀ H₀ G H σ ρ/\Rep X.K G v d/\asg d ρ=.ok ρ'/\∀ σ',StR X.K G₀ H₀ G H σ' ρ'->Q σ' H) x σ H' fun σ2 H2=>(fun D σ H=>∃ G₀ H₀,tS X G₀ H₀ g D σ H) { D with nx:=N,ct:=N,bk:=D.nx } σ2 H2):=by
   intro J G1 H1 u1 iok
   have sr1:=sr.ups u1
   refine ⟨fun i m σ' H'=>m=items.length - i/\i<=items.length/\∃ G' ρ',StR X.K G1 (mix H₀ G1) G' H' σ' ρ'/\jj X G₀ H₀ D (cN asg g (items.drop i) ρ'),⟨items.length,by simp,Nat.zero_le _,G1,ρ,sr1.to,by simpa using h⟩,?_⟩
   rintro i m σ' H' ⟨rfl,hil,G',ρ',sr',h'⟩
   have hIt:=iok i G' H' sr'.up.gg sr'.e.sub
   by_cases hlt:i<items.length
   ·have hd:items.drop i=items[i]::items.drop (i+1):=List.drop_eq_getElem_cons hlt
    rw [hd] at h'
    obtain ⟨go,yl⟩:=hIt.1 items[i] (by simp [hlt])
    refine .inr ⟨go,fun σ2 H2=>i+1<=items.length/\∃ G2 ρ2,StR X.K G1 (mix H₀ G1) G2 H2 σ2 ρ2/\jj X G₀ H₀ D (cN asg g (items.drop (i+1)) ρ2),fun σ2 H2 q2=>⟨items.length - (i+1),by omega,rfl,q2⟩,fun x H2 y=>?_⟩
    obtain ⟨G2,up2,rep2⟩:=yl x H2 y
    unfold cN at h'
    cases q2:asg items[i] ρ' with
    | ok ρ1=>
     rw [q2] at h'
     simp only [R.out] at h'
     refine ⟨G1,mix H₀ G1,G2,ρ',items[i],ρ1,sr'.ups up2,rep2,q2,fun σ3 sr3=>⟨G1,mix H₀ G1,G2,ρ1,sr3,?_⟩⟩
     cases q3:g ρ1 with
     | nx ρ2=>rw [q3] at h';exact fun σ4 G4 H4 sr4=>⟨hlt,G4,ρ2,sr4,h'⟩
     | ct ρ2=>rw [q3] at h';exact fun σ4 G4 H4 sr4=>⟨hlt,G4,ρ2,sr4,h'⟩
     | bk ρ2=>rw [q3] at h';exact fun σ4 G4 H4 sr4=>h' σ4 G4 H4 (sr4.back sr.sub0 sr1.up)
     | rt d=>rw [q3] at h';exact fun v G4 H4 u4 r4=>h' v G4 H4 (sr1.up.back u4) r4
     | re d ρ2=>rw [q3] at h';exact fun v σ4 G4 H4 sr4 r4=>h' v σ4 G4 H4 (sr4.back sr.sub0 sr1.up) r4
     | ex C ρ2=>rw [q3] at h';exact fun e s' f4=>h' e s' (f4.map fun σ4 G4 H4 sr4=>sr4.back sr.sub0 sr1.up)
     | no=>rw [q3] at h';exact h'
    | ex C=>exact absurd q2 (hn _ _ C)
    | no=>rw [q2] at h';exact h'.elim
   ·have hie:i=items.length:=by omega
    subst hie
    rw [List.drop_length] at h'
    exact .inl ⟨hIt.2 (Nat.le_refl _),h' σ' G' H' (sr'.back sr.sub0 sr1.up)⟩
  have hb':PSs X body (fun D σ H=>∃ G₀ H₀,tS X G₀ H₀ g D σ H):=fun pins s σ H D I ⟨G₀,H₀,q⟩=>hb G₀ H₀ pins s σ H D I q
  refine BA hp hcalm hi hg hb' hs pins s σ H D I ⟨G,ρ,sr.e,?_⟩
  rw [q]
  exact fun J G1 H1 u1 iok=>key J G1 H1 u1 iok
 | ex C=>
  rw [q] at h
  have hb':PSs X body (fun D σ H=>∃ G₀ H₀,tS X G₀ H₀ g D σ H):=fun pins s σ H D I ⟨G₀,H₀,q⟩=>hb G₀ H₀ pins s σ H D I q
  refine BA hp hcalm hi hg hb' hs pins s σ H D I ⟨G,ρ,sr.e,?_⟩
  rw [q]
  exact Exx.of sr h
 | no=>rw [q] at h;exact h.elim
end
noncomputable def spF (K:PySem.W.Frag) (f:List D->R D):Sp:=fun vs H Q E=>∃ G ds,Same G H/\Reps K G vs ds/\(f ds).post (Fin G H (Rep K) Q) (fun C=>∀ G' H',Up G H G' H'->E (.ref C) none H')
noncomputable abbrev FnF (P:Program) (w:World) (K:PySem.W.Frag) (mg:Str->Option Value) (base:Heap) (k:Nat) (f:Addr) (fd:FuncData) (ps:List Str) (g:List D->R D):Prop:=FnOk P w K mg base (CXo P w) k f fd ps (fun vs H Q E=>vs.length=ps.length/\spF K g vs H Q E)
section
variable {p:Pos} {e:Expr}
theorem Cw (F:FnF X.prog X.w X.K X.mg X.base k f fd ps g) (hr:Room k X.A) (hg:Gl X x) (hm:X.mg x=some (.ref f)) (hk:PySem.W.keepIn X.K (.ref f)=true) (hb:Binds X.K fd ps []) (ha:PFA X (e::es) gl)
 (hdb:(x==("__debug__":Str))=false:=by decide) (he:starEach (e::es) X.env=(false,eval e X.env)::starEach es X.env:=by rfl) (hpl:(backTo pos (starEach es X.env)).any (·.1)=false:=by rfl) :
  PF X (.Call (.Name x p) (e::es) [] pos) (fun ρ=>gl ρ>>=fun ds=>if ds.length=ps.length then g ds else .no):=by
 intro pins s σ H Q I h
 obtain ⟨G,ρ,st,h⟩:=h
 have t:tAF X gl σ H (fun vs H1=>∃ G1 ds,Up G H G1 H1/\Same G1 H1/\Reps X.K G1 vs ds/\ds.length=ps.length/\(g ds).post (Fin G1 H1 (Rep X.K) Q) (Exx X σ G1 H1)):=by
  refine tG.intro st h fun ds vs G1 H1 u1 st1 r1 h1=>?_
  by_cases hl:ds.length=ps.length
  ·rw [if_pos hl] at h1;exact ⟨G1,ds,u1,st1.sub,r1,hl,h1⟩
  ·rw [if_neg hl] at h1;exact h1.elim
 refine wpAny_Call_Name_kw (lM I hg hm ?_ hdb)
 refine PySem.W.callWith_K (h₀:=X.base) I.ok.mod.kin hk (thn (ha pos pins s σ H _ I t) fun us s1 q=>⟨?_,?_⟩) he hpl
 ·obtain ⟨vs,H1,I1,r,_⟩:=q;exact I1.kIn
 obtain ⟨vs,H1,I1,r,G1,ds,u1,sub1,rp,hl,h1⟩:=q
 have hvl:vs.length=ps.length:=by rw [rp.length];exact hl
 have hul:(us++[]).length=ps.length:=by rw [List.append_nil,<- r.length];exact hvl
 have hbb:=hb s1 us I1.kIn hul
 rw [List.append_nil] at hbb
 refine wpAny_call (codeAny_mono (F.run X.A X.stack s1 H1 ⟨us,[]⟩ us vs Q (fun c _ H'=>∃ C G',c=.ref C/\Up G1 H1 G' H'/\Exx X σ G1 H1 C) hr I1.env0 hbb r ⟨hvl,G1,ds,sub1,rp,h1.mono (fun _ q=>q) fun C q G' H' u=>⟨C,G',rfl,u,q⟩⟩) fun r' s' hq=>?_)
 cases r' with
 | error e'=>
  obtain ⟨a,C,H',rfl,fl,C',G',ec,u,q⟩:=hq
  cases ec
  exact q _ _ ⟨G1,H1,.refl sub1,pins,s1,a,rfl,I1,.inr (.inl ⟨G',H',fl,u⟩)⟩
 | ok fl=>
  cases fl with
  | ret u=>exact I1.after hq
  | _=>exact False.elim hq
end
theorem ObjOk.there {w:World} {o:HO} (x:ObjOk P w H h a o):∃ ob,h.get? a=some ob:=by
 cases o with
 | lst xs=>obtain ⟨_,_,_,_,e⟩:=x;exact ⟨_,e⟩
 | tup xs=>obtain ⟨_,_,_,o,e,_⟩:=x;exact ⟨_,e⟩
 | dK kvs=>obtain ⟨_,_,_,_,o,_,_,e,_⟩:=x;exact ⟨_,e⟩
 | dT kvs=>obtain ⟨_,_,_,_,o,_,_,e,_⟩:=x;exact ⟨_,e⟩
 | set S n=>obtain ⟨o,_,_,_,e,_⟩:=x;exact ⟨_,e⟩
 | ins C dx fs=>obtain ⟨_,_,_,e,_⟩:=x;exact ⟨_,e⟩
 | own y=>obtain ⟨_,e⟩:=x;exact ⟨_,e⟩
 | xd fs=>obtain ⟨_,⟨_,_,_,e,_⟩,_⟩:=x;exact ⟨_,e⟩
 | rng lo hi=>obtain ⟨_,_,_,e⟩:=x;exact ⟨_,e⟩
 | frz ob u=>obtain ⟨e,_⟩:=x;exact ⟨_,e⟩
 | tbl ps=>obtain ⟨_,e,_⟩:=x;exact ⟨_,e⟩
 | met f y=>exact ⟨_,show h.get? a=some _ from x⟩
 | ext φ=>obtain ⟨_,⟨_,e⟩,_⟩:=x;exact ⟨_,e⟩
theorem Ax {env:Env} {outer:List Env} {L:Addr} (h:env.frame=some L):frs (env::outer)=L::frs outer:=by
 unfold frs
 rw [List.filterMap_cons,h]
section
variable {w:World} {h1 h2 hm:Heap} {l l':List Addr} {B:Heap}
theorem HOk.flight (x:HOk P w H' h1) (hb:B.StaysIn h2) (hk:∀ b o,b ∉ l->((∃ o0,hm.get? b=some o0)\/∃ u,H' b=some u)->h1.get? b=some o->B.get? b=some o) (hl:∀ b∈l,H' b=none):HOk P w H' h2:=fun a o e=>by
 refine (x a o e).stay (fun b u hbb q=>hb b u (hk b u (fun z=>?_) (.inr ?_) q)) (fun _ z=>z) (fun _ _ z=>z)
 ·rcases hbb with rfl|hbb
  ·rw [hl _ z] at e;cases e
  ·rw [hl _ z] at hbb;cases hbb
 ·rcases hbb with rfl|hbb
  ·exact ⟨_,e⟩
  ·exact ⟨_,hbb⟩
theorem Un.flight {ex:List Addr} (u:Un l' ex H H' h h1) (hb:B.StaysIn h2) (sm:h1.UpToSlots h2) (hk:∀ b o,b ∉ l->((∃ o0,hm.get? b=some o0)\/∃ u,H' b=some u)->h1.get? b=some o->B.get? b=some o) (lt:∀ b o,h.get? b=some o->∃ o0,hm.get? b=some o0)
 (hl:∀ b∈l,b∈l'\/h.objs.size<=b) (hd:∀ b∈l,∀ o,h1.get? b=some o->∀ vs,o.data ≠ .fields vs):Un l' ex H H' h h2:=by
 refine ⟨fun b o e nn hb' hx=>?_,fun b o e nn hb' hx=>?_,u.free,fun b o e hx=>?_,u.tups,u.frzs,u.tbls⟩
 ·have q:=u.keep b o e nn hb' hx
  refine hb b o (hk b o (fun z=>?_) (.inl (lt b o e)) q)
  rcases hl b z with z|z
  ·exact hb' z
  ·exact absurd (Heap.lt_size e) (Nat.not_lt.mpr z)
 ·obtain ⟨sl,q⟩:=u.slot b o e nn hb' hx
  by_cases z:b∈l
  ·obtain ⟨sl',q'⟩:=sm b _ q (hd b z _ q)
   exact ⟨sl',q'⟩
  ·exact ⟨sl,hb b _ (hk b _ z (.inl (lt b o e)) q)⟩
 ·obtain ⟨o',q⟩:=u.there b o e hx
  by_cases z:b∈l
  ·obtain ⟨sl',q'⟩:=sm b _ q (hd b z _ q)
   exact ⟨_,q'⟩
  ·exact ⟨o',hb b _ (hk b _ z (.inl (lt b o e)) q)⟩
end
theorem FunFrames.data {base:Heap}:∀ {l:List Env},h.FunFrames base l->∀ b∈frs l,∃ o,h.get? b=some o/\(∀ vs,o.data ≠ .fields vs)/\base.get? b=none:=fun {l} hf b hb=>by
 obtain ⟨h1,o,h2,h3⟩:=hf.mem hb
 exact ⟨o,h2,h3,h1⟩
noncomputable def gCx (P:Program) (w:World) (K:PySem.W.Frag) (mg:Str->Option Value) (base:Heap) (N:List Str) (env:Env) (fn:Str->Bool) (A:Around) (outer:List Env) (s:Shared) (H:Hp) (E:XK):Cx where
 prog:=P
 w:=w
 K:=K
 mg:=mg
 base:=base
 A:=A.deeper env
 N:=N
 s₀:=s
 H₀:=H
 env:=env
 outer:=outer
 stack:=env::outer
 ex:=[]
 calm:=true
 fn:=fn
 pn:=[]
 xe:=fun e s'=>wpAny (model P w) (A.deeper env) (leaving env e) (fun _ s''=>CXo P w outer H s E e s'') (fun e' s''=>CXo P w outer H s E e' s'') s'
theorem En {w : World} {K : PySem.W.Frag} {mg : Str -> Option Value} {base : Heap} {N : List Str} {env : Env} {fn : Str -> Bool} {A : Around} {outer : List Env} {E : XK} {e : Value}
 (hloc : env.locals = s.heap.objs.size) (hf : env.frame = some s.heap.objs.size) (fl : FlyS (gCx P w K mg base N env fn A outer s H E) G H ρ C e s') (hE : ∀ G' H', Up G H G' H' -> E (.ref C) none H') : (gCx P w K mg base N env fn A outer s H E).xe e s' := by
  obtain ⟨σ, H₁, pins, s₁, a, rfl, I, way⟩ := fl
  have hfr : (A.deeper (env)).frames = some (env :: outer) := I.ok.frames
  have hst : frs (env :: outer) = s.heap.objs.size :: frs outer := Ax hf
  have old : ∀ b o, s.heap.get? b = some o -> ∃ o0, s₁.heap.get? b = some o0 := fun b o e => I.base.there b o e (by show b ∉ ([] : List Addr); simp)
  show wpAny (model P w) (A.deeper (env)) (leaving (env) (.ref a)) (fun _ s'' => CXo P w outer H s E (.ref a) s'') (fun e' s'' => CXo P w outer H s E e' s'') s'
  -- the end, from the heap behind
  have fin : ∀ {H' : Hp} {G' : Hp} {s' : Shared} {h'' B : Heap} {a0 : Value}, Inv (gCx P w K mg base N env fn A outer s H E) pins σ H' s' -> StR K G H G' H' σ ρ -> H' a = none -> Heap.FlyingW B outer a (.ref C) a0 h'' -> s'.heap.UpToSlots h'' ->
      (∀ b o, b ∉ s.heap.objs.size :: frs outer -> ((∃ o0, s₁.heap.get? b = some o0) \/ ∃ u, H' b = some u) -> s'.heap.get? b = some o -> B.get? b = some o) -> CXo P w outer H s E (.ref a) { s' with heap := h'' } := by
    intro H' G' s' h'' B a0 J up ha fl sm hk
    have J0 : H' s.heap.objs.size = none := by have q : H' env.locals = none := J.free; rw [hloc] at q; exact q
    have fr0 : ∀ b ∈ frs outer, H' b = none := fun b hb => J.stkFree b (by show b ∈ frs (env :: outer); rw [hst]; exact List.mem_cons_of_mem _ hb)
    have frA : ∀ b ∈ s.heap.objs.size :: frs outer, H' b = none := fun b hb => by
      rcases List.mem_cons.mp hb with rfl | hb
      · exact J0
      · exact fr0 b hb
    have dat : ∀ b ∈ s.heap.objs.size :: frs outer, ∀ o, s'.heap.get? b = some o -> ∀ vs, o.data ≠ .fields vs := fun b hb o e => by
      obtain ⟨o', e', d', _⟩ := FunFrames.data J.stack b (by show b ∈ frs (env :: outer); rw [hst]; exact hb)
      rw [e] at e'; cases e'; exact d'
    have hok : HOk P w H' h'' := J.hok.flight fl.1 hk frA
    have un : Un (frs outer) [] H H' s.heap h'' := Un.flight J.base fl.1 sm hk old (fun b hb => (List.mem_cons.mp hb).elim (fun z => .inr (by rw [z]; exact Nat.le_refl _)) .inl) dat
    refine ⟨a, C, H', rfl, ⟨J.os, J.bare, un, hok, ha, B, a0, fl, fun b o hb ho e => ?_⟩, hE G' H' up.up⟩
    have nb : b ∉ s.heap.objs.size :: frs outer := fun z => by
      rcases List.mem_cons.mp z with z | z
      · rcases ho with ⟨o0, ho⟩ | ⟨u, ho⟩
        · rw [z] at ho; exact Nat.lt_irrefl _ (Heap.lt_size ho)
        · rw [z, J0] at ho; cases ho
      · exact hb z
    have ho' : (∃ o0, s₁.heap.get? b = some o0) \/ ∃ u, H' b = some u := ho.imp (fun ⟨o0, z⟩ => old b o0 z) id
    have ex : ∃ o', s'.heap.get? b = some o' := by
      rcases ho with ⟨o0, ho⟩ | ⟨u, ho⟩
      · exact J.base.there b o0 ho (by show b ∉ ([] : List Addr); simp)
      · exact (J.hok b u ho).there
    obtain ⟨o', e'⟩ := ex
    have q := hk b o' nb ho' e'
    have q2 := fl.1 b o' q
    have e2 : h''.get? b = some o := e
    rw [q2] at e2
    cases e2
    exact q
  rcases way with ⟨G₁, h', vs, sr, made, rfl⟩ | ⟨G', H', ⟨os, bare, un, hok, ha, B, a0, fl, hk⟩, up⟩ | ⟨G', H', L', hL, ⟨os, bare, ⟨ch, hch, un⟩, hok, ha, _, B, a0, fl, hk⟩, up⟩
  · -- made here
    have J : Inv (gCx P w K mg base N env fn A outer s H E) pins σ H₁ { s₁ with heap := h' } := I.kept (t' := s₁.toks) made.keeps
    have hin : ∀ en ∈ (env :: outer), ∀ b, en.frame = some b -> b ∈ s.heap.objs.size :: frs outer := fun en he b hb => by
      rw [<- hst]; exact List.mem_filterMap.mpr ⟨en, he, hb⟩
    refine wpAny_leaves_madeW (base := PySem.W.hideAll s₁.heap (s.heap.objs.size :: frs outer)) hfr hf (fun b o q => PySem.W.of_hideAll _ q) (PySem.W.funFrames_hide I.stack hin) made fun h'' t fl' _ _ sm => ?_
    have ha : H₁ a = none := by
      cases q : H₁ a with
      | none => rfl
      | some u =>
        obtain ⟨ob, e⟩ := (I.hok a u q).there
        rw [made.new] at e; cases e
    refine fin J sr ha fl' sm fun b o hb ho e => ?_
    have e1 : s₁.heap.get? b = some o := by
      rcases ho with ⟨o0, ho⟩ | ⟨u, ho⟩
      · have q := made.keeps b o0 ho
        have e' : h'.get? b = some o := e
        rw [q] at e'; cases e'; exact ho
      · obtain ⟨ob, ho⟩ := (I.hok b u ho).there
        have q := made.keeps b ob ho
        have e' : h'.get? b = some o := e
        rw [q] at e'; cases e'; exact ho
    exact PySem.W.hideAll_get _ e1 hb
  · have J := I.call' (s' := s') (ch := []) os un hok bare (fun b z => absurd z (by simp))
    exact wpAny_leaves_onW hfr hf fl fun h'' fl' sm => fin J up ha fl' sm fun b o hb ho e => hk b o (by show b ∉ frs (env :: outer); rw [hst]; exact hb) ho e
  · have J := I.call' (s' := s') (ch := ch) os un hok bare hch
    have eL : s.heap.objs.size = L' := Option.some.inj (hf.symm.trans hL)
    rw [<- eL] at fl
    refine wpAny_bind (wpAny_noteFrame_againW hf fl.2.2.2 (wpAny_landsW fl fun h'' fl' sm => ?_))
    obtain ⟨k1, k2, ⟨_, _, k3⟩, k4⟩ := fl'
    exact fin J up ha ⟨k1, k2, k3, k4⟩ sm fun b o hb ho e => hk b o (by show b ∉ frs (env :: outer); rw [hst]; exact hb) ho e

theorem oz {w:World} {K:PySem.W.Frag} {mg:Str->Option Value} {base:Heap} {N:List Str} {cd:Value} {A:Around} {outer:List Env} {E:XK} {e:Value}
 (fl:FlyS (gj (CXo P w) P w K mg base N qual scope f cd A outer s H E) G H ρ C e s') (hE:∀ G' H',Up G H G' H'->E (.ref C) none H'):(gj (CXo P w) P w K mg base N qual scope f cd A outer s H E).xe e s':=
 En (env:=envOfC qual scope s.heap.objs.size f cd) (fn:=fun _=>true) rfl rfl fl hE
noncomputable def ax (n:Nat) (ds:List D):Ev:=ds.map (fun d=>some (.val d))++List.replicate (n - ds.length) none
noncomputable def az (o:O):R D:=match o with
 | .rt d=>.ok d
 | .re d _=>.ok d
 | .nx _=>.ok .non
 | .ex C _=>.ex C
 | _=>.no
theorem tT {K:PySem.W.Frag} {N:List Str} (sub:Same G H) (r:Reps K G vs ds):StR K G H G H (start N vs) (ax N.length ds):=by
 have hl:=r.length
 have get:∀ (i:Nat) x,(ax N.length ds)[i]?=some (some x)->∃ d,ds[i]?=some d/\x=.val d:=fun i x e=>by
  unfold ax at e
  by_cases hi:i<ds.length
  ·rw [List.getElem?_append_left (by simpa using hi),List.getElem?_map] at e
   cases q:ds[i]? with
   | none=>rw [q] at e;cases e
   | some d=>rw [q] at e;cases e;exact ⟨d,rfl,rfl⟩
  ·rw [List.getElem?_append_right (by simpa using hi),List.getElem?_replicate] at e
   split at e <;> cases e
 have no:NoOwn (ax N.length ds):=fun i x e=>by obtain ⟨d',_,q⟩:=get i _ e;exact ⟨d',q⟩
 refine ⟨⟨sub,by simp [start,ax,hl],fun i d e=>?_,fun i m C p fs e=>absurd e (no.obj i m C p fs)⟩,sub,.refl sub,fun i es e=>?_,fun i j es fs l e=>?_,no.ob⟩
 ·obtain ⟨d',e',q⟩:=get i _ e
  cases q
  obtain ⟨v,ev,rv⟩:=r.get e'
  refine ⟨v,?_,rv⟩
  unfold start
  rw [List.getElem?_append_left (by have:=(List.getElem?_eq_some_iff.mp ev).1;simpa using this),List.getElem?_map,ev]
  rfl
 ·obtain ⟨d',_,q⟩:=get i _ e;cases q
 ·obtain ⟨d',_,q⟩:=get i _ e;cases q
theorem Fun.okF {w:World} {K:PySem.W.Frag} {mg:Str->Option Value} {base:Heap} {N:List Str} (F:Fun K x qual st f fd) (S:FnScope N ps (ag st)) {g:Ev->O}
 (hbody:∀ (cdv:Value) (A:Around) (outer:List Env) (s:Shared) (H:Hp) (E:XK),Room k (A.deeper (envOfC qual (ag st) s.heap.objs.size f cdv))->oJ (gj (CXo P w) P w K mg base N qual (ag st) f cdv A outer s H E) (aZ st) g) :
  FnF P w K mg base (k+1) f fd ps (fun ds=>az (g (ax N.length ds))):=by
 obtain ⟨oc,od,kV,doc,pm,an,cdv,ct,osl,rfl,lk,hcd⟩:=F.ex
 refine Dc lk hcd S (fun vs H Q E h=>h.1) fun A outer s H vs Q E hr hsp=>?_
 obtain ⟨hl,G,ds,sub,r,h⟩:=hsp
 refine ⟨_,hbody cdv A outer s H E hr G H,G,ax N.length ds,tT sub r,?_⟩
 dsimp only at h
 cases q:g (ax N.length ds) with
 | nx ρ=>rw [q] at h;exact fun σ G' H' sr=>h .non G' H' sr.up .non
 | rt d=>rw [q] at h;exact fun v G' H' u rv=>h v G' H' u rv
 | re d ρ=>rw [q] at h;exact fun v σ G' H' sr rv=>h v G' H' sr.up rv
 | bk ρ=>rw [q] at h;exact h.elim
 | ct ρ=>rw [q] at h;exact h.elim
 | ex C ρ=>rw [q] at h;exact fun e s' fl=>oz fl h
 | no=>rw [q] at h;exact h.elim
theorem me:fillsNumberSlot (.type "tuple") "mul"=pure false:=
 PySem.fillsNumberSlot_seq (id:="tuple.__mul__") (r:=some (.builtin "tuple.__rmul__")) F.slot_tuple_mul.lookup (by decide +kernel) F.slot_tuple_rmul.lookup (by decide +kernel)
theorem Ed:seqRepeat? (.type "tuple")=pure (some (.builtin "tuple.__mul__")):=by
 unfold seqRepeat?
 rw [PySem.seqSlot_of (T:="tuple") (name:="__mul__") (id:="tuple.__mul__") F.slot_tuple_mul.lookup (by decide +kernel),PySem.seqSlot_of (T:="tuple") (name:="__rmul__") (id:="tuple.__rmul__") F.slot_tuple_rmul.lookup (by decide +kernel)]
 rfl
open Builtin in
theorem pi (a:Int) (t:Tok) (l:Addr) (items:Array Value) (n:Nat) (dd:Option Addr) (sl:Array (Option Value)) :
  Meets (Builtin.«int.__rmul__» ⟨[.int a t,.ref l],[]⟩) (fun _ Rr s=>s.heap.get? l=some { cls:=.type "tuple",dict:=dd,data:=.seq items n,slots:=sl }/\Rr (.ok (.ret Value.notImplemented)) s):=
 .of_wp fun prog w A Rr s h=>by obtain ⟨hp,g,d,tk,os⟩:=s;obtain ⟨hl,h⟩:=h;wp_walk;exact ⟨_,rfl,h⟩
section
open Builtin AutoSeq1
variable (l:Addr) (items:Array Value) (n:Nat) (dd:Option Addr) (sl:Array (Option Value)) (x:Int) (u:Tok) (h1:(decide (x < -(2 ^ 63)) || decide (x ≥ 2 ^ 63))=false)
include h1
theorem Bt (hc:(items.isEmpty || x==1)=true) :
  Meets (Builtin.«tuple.__mul__» ⟨[.ref l,.int x u],[]⟩) (fun _ Rr s=>s.heap.get? l=some { cls:=.type "tuple",dict:=dd,data:=.seq items n,slots:=sl }/\Rr (.ok (.ret (.ref l))) s):=
 .of_wp fun prog w A Rr s h=>by
  obtain ⟨hp,g,d,tk,os⟩:=s;obtain ⟨hl,h⟩:=h
  have f1:=idx_int
  wp_walk
  refine wpAny_ite_false (by rw [h1];rfl) ?_
  refine wpAny_bind (tupleItemsOf_ (show IsTup hp l items from ⟨_,hl,rfl,n,rfl⟩) ?_)
  dsimp only
  rw [if_pos hc]
  unfold Tuple.tupleIsExact
  refine wpAny_bind (wpAny_bind (wpAny_typeOf ⟨_,hl,rfl⟩ (wpAny_pure ?_)))
  rw [if_pos (by decide)]
  exact wpAny_bind (wpAny_rule (wpAny_pure ⟨_,rfl,h⟩))
theorem Bi (hc : ¬ (items.isEmpty || x==1)=true) (h2:(decide (x<=0) || items.isEmpty)=true) :
  Meets (Builtin.«tuple.__mul__» ⟨[.ref l,.int x u],[]⟩) (fun _ Rr s=>s.heap.get? l=some { cls:=.type "tuple",dict:=dd,data:=.seq items n,slots:=sl }/\Rr (.ok (.ret (.ref s.heap.objs.size))) { s with heap:=s.heap.push { cls:=.type "tuple",data:=.seq #[] } }):=
 .of_wp fun prog w A Rr s h=>by
  obtain ⟨hp,g,d,tk,os⟩:=s;obtain ⟨hl,h⟩:=h
  have f1:=idx_int
  wp_walk
  refine wpAny_ite_false (by rw [h1];rfl) ?_
  refine wpAny_bind (tupleItemsOf_ (show IsTup hp l items from ⟨_,hl,rfl,n,rfl⟩) ?_)
  dsimp only
  rw [if_neg hc,if_pos h2]
  exact wpAny_bind (m:=Builtin.Tuple.tupleExact _) (wpAny_newObj_type (wpAny_pure ⟨_,rfl,h⟩) (Nat.zero_le _))
theorem zA (hc : ¬ (items.isEmpty || x==1)=true) (h2 : ¬ (decide (x<=0) || items.isEmpty)=true) (hz:items.size * x.toNat<=sizeLine) :
  Meets (Builtin.«tuple.__mul__» ⟨[.ref l,.int x u],[]⟩) (fun _ Rr s=>s.heap.get? l=some { cls:=.type "tuple",dict:=dd,data:=.seq items n,slots:=sl }/\
   Rr (.ok (.ret (.ref s.heap.objs.size))) { s with heap:=s.heap.push { cls:=.type "tuple",data:=.seq (List.foldl (fun x1 x2=>x1++x2) #[] (List.replicate x.toNat items)) } }):=
 .of_wp fun prog w A Rr s h=>by
  obtain ⟨hp,g,d,tk,os⟩:=s;obtain ⟨hl,h⟩:=h
  have f1:=idx_int
  have hx:0<x:=by
   cases q:decide (x<=0) with
   | true=>rw [q] at h2;exact absurd rfl h2
   | false=>exact Int.not_le.mp (of_decide_eq_false q)
  have ez:(items.size:Int) * x=((items.size * x.toNat:Nat):Int):=by
   rw [Int.natCast_mul,Int.toNat_of_nonneg (Int.le_of_lt hx)]
  have hlim:(sizeLine:Nat)<=(2 ^ 63 - 1) / 8:=by decide
  have h3 : ¬ ((items.size:Int) * x > (2 ^ 63 - 1) / 8):=by
   rw [ez]
   have:((sizeLine:Nat):Int)<=(2 ^ 63 - 1) / 8:=by decide
   omega
  have h4 : ¬ (Tuple.tupleTooMany ((items.size:Int) * x)=true):=by
   unfold Tuple.tupleTooMany
   rw [ez]
   intro q
   have:=of_decide_eq_true q
   omega
  have hfz:(List.foldl (fun x1 x2=>x1++x2) #[] (List.replicate x.toNat items)).size<=sizeLine:=by
   have e:=iE items.toList x.toNat []
   simp only [List.nil_append,Array.toArray_toList] at e
   rw [e,List.size_toArray,nV,Array.length_toList,Nat.mul_comm]
   exact hz
  wp_walk
  refine wpAny_ite_false (by rw [h1];rfl) ?_
  refine wpAny_bind (tupleItemsOf_ (show IsTup hp l items from ⟨_,hl,rfl,n,rfl⟩) ?_)
  dsimp only
  rw [if_neg hc,if_neg h2,if_neg h3,if_neg h4]
  exact wpAny_bind (m:=Builtin.Tuple.tupleExact _) (wpAny_newObj_type (wpAny_pure ⟨_,rfl,h⟩) hfz)
end
section
noncomputable def He (K:PySem.W.Frag):R2:=fun x y H Q=>∃ l k xs,x=.ref l/\y=.int k/\SqT K H l xs/\-(2 ^ 63)<=k/\k<2 ^ 63/\xs.length * k.toNat<=sizeLine/\
 (xs=[]\/k=1->Q (.ref l) H)/\(xs≠[]->k≠1->∀ p,H p=none->Q (.ref p) (upd H p (.tup (List.replicate k.toNat xs).flatten)))
theorem op_repT:OpR X (binaryOp .Mult) (He X.K):=by
 intro pins s σ H x y v u Q I rx ry h
 obtain ⟨l,k,xs,rfl,rfl,hH,h1,h2,hz,q0,q1⟩:=h
 cases rx
 obtain ⟨t,rfl⟩:=ry
 obtain ⟨its,r,p,hzz⟩:=I.tuple hH
 obtain ⟨⟨cls,dd,data,sl⟩,ho,hc,n,hd⟩:=id p
 simp only at hc hd
 subst hc hd
 have hlen:its.length=xs.length:=r.length.symm
 have hin:(decide (k < -(2 ^ 63)) || decide (k ≥ 2 ^ 63))=false:=by
  rw [decide_eq_false (by omega),decide_eq_false (by omega)];rfl
 have emp:its.toArray.isEmpty=decide (xs=[]):=by
  cases its with
  | nil=>cases r;rfl
  | cons a b=>cases r;rfl
 refine wpAny_binaryOp_repeat_ref (T:="tuple") (U:="int") (by decide) ⟨_,ho,rfl⟩ (fun s'=>typeIs_int s' k t) me F.fills_int_mul F.slot_int_rmul Ed F.slot_int_index.lookup
  (call_meets F.slot_int_rmul (typeIs_int s k t) F.entry_int_rmul (F.args_int_rmul_2 _ _) (pi k t l its.toArray n dd sl) ⟨ho,rfl,⟨_,ho,rfl⟩,?_⟩)
 by_cases hc:(its.toArray.isEmpty || k==1)=true
 ·refine call_meets F.slot_tuple_mul ⟨_,ho,rfl⟩ F.entry_tuple_mul (F.args_tuple_mul_2 _ _) (Bt l its.toArray n dd sl k t hin hc) ⟨ho,.ref l,H,I,rfl,q0 ?_⟩
  rw [emp] at hc
  simpa using hc
 ·have hne:xs≠[]/\k≠1:=by
   rw [emp] at hc
   simpa using hc
  have fin:∀ its',its'=(List.replicate k.toNat its).flatten->EP X pins σ Q (.ref s.heap.objs.size) { s with heap:=s.heap.push { cls:=.type "tuple",data:=.seq its'.toArray } }:=fun its' e=>by
   subst e
   refine ⟨.ref s.heap.objs.size,_,I.laid (t':=s.toks) (o:=.tup (List.replicate k.toNat xs).flatten) (fun b ob q=>Heap.get?_push_of_some _ q) (Nat.le_refl _) ?_,rfl,q1 hne.1 hne.2 _ I.fresh⟩
   exact ⟨by rw [nV,Nat.mul_comm];exact hz,_,r.rep k.toNat,IsTup.new _ _⟩
  by_cases h0:(decide (k<=0) || its.toArray.isEmpty)=true
  ·refine call_meets F.slot_tuple_mul ⟨_,ho,rfl⟩ F.entry_tuple_mul (F.args_tuple_mul_2 _ _) (Bi l its.toArray n dd sl k t hin hc h0) ⟨ho,?_⟩
   refine fin [] ?_
   have:k<=0:=by
    rw [emp,decide_eq_false hne.1,Bool.or_false] at h0
    exact of_decide_eq_true h0
   rw [Int.toNat_of_nonpos this]
   rfl
  ·refine call_meets F.slot_tuple_mul ⟨_,ho,rfl⟩ F.entry_tuple_mul (F.args_tuple_mul_2 _ _) (zA l its.toArray n dd sl k t hin hc h0 (by rw [List.size_toArray,hlen];exact hz)) ⟨ho,?_⟩
   have e:=iE its k.toNat []
   simp only [List.nil_append] at e
   rw [e]
   exact fin _ rfl
theorem Cy (x:Str) (n:Int):(Txt.mul x n).cps.toList=(List.replicate n.toNat x.cps.toList).flatten:=by
 unfold Txt.mul
 by_cases h1:n<1
 ·rw [if_pos h1,Int.toNat_of_nonpos (by omega)];rfl
 ·rw [if_neg h1]
  by_cases h2:(n==1 || x.length==0)=true
  ·rw [if_pos h2]
   rcases Bool.or_eq_true_iff.mp h2 with h|h
   ·have:n=1:=by simpa using h
    subst this
    show _=(List.replicate 1 x.cps.toList).flatten
    simp
   ·have:x.cps.toList=[]:=List.eq_nil_of_length_eq_zero (by rw [Str.len_list];simpa using h)
    rw [this];simp
  ·rw [if_neg h2]
   have:∀ (m:Nat) (acc:Array Nat),((List.replicate m x.cps).foldl (·++·) acc).toList=acc.toList++(List.replicate m x.cps.toList).flatten:=by
    intro m
    induction m with
    | zero=>intro acc;simp
    | succ m ih=>intro acc;rw [List.replicate_succ,List.foldl_cons,ih,List.replicate_succ,List.flatten_cons];simp
   simpa using this n.toNat #[]
theorem op_mul_str:OpR X (binaryOp .Mult) (fun x y H Q=>∃ (i:Str) (k:Int),x=.str i/\y=.int k/\-(2 ^ 63)<=k/\k<2 ^ 63/\i.length * k.toNat<=sizeLine/\Q (.str (Txt.mul i k)) H):=by
 intro pins s σ H x y v u Q I rx ry h
 obtain ⟨i,k,rfl,rfl,h1,h2,hz,q⟩:=h
 obtain ⟨t,rfl⟩:=rx
 obtain ⟨t',rfl⟩:=ry
 refine SB.mul ⟨by rw [decide_eq_false (by omega),decide_eq_false (by omega)];rfl,fun h3 h4=>?_,fun h3 h4=>?_⟩ fun t'' n=>⟨.str _,H,I.tok _,⟨_,rfl⟩,q⟩
 ·have hk:0<k:=by omega
  intro h5
  have h6:(2 ^ 63 - 1) / k * k<=2 ^ 63 - 1:=Int.ediv_mul_le _ (by omega)
  have h7:(((i.length * k.toNat:Nat)):Int)=(i.length:Int) * k:=by rw [Int.natCast_mul,Int.toNat_of_nonneg (by omega)]
  have h8:((2 ^ 63 - 1) / k+1) * k<=(i.length:Int) * k:=Int.mul_le_mul_of_nonneg_right (by omega) (by omega)
  have h9:2 ^ 63 - 1<((2 ^ 63 - 1) / k+1) * k:=Int.lt_ediv_add_one_mul_self _ hk
  have h10:((sizeLine:Nat):Int)<2 ^ 63 - 1:=by decide
  omega
 ·unfold Builtin.Str.tooLong
  exact decide_eq_false (by omega)
noncomputable def gN:D->D->Option D
 | .int i,.int j=>if (-(2 ^ 64)<i/\i<2 ^ 64)\/(-(2 ^ 64)<j/\j<2 ^ 64) then some (.int (i * j)) else none
 | .str x,.int k=>if -(2 ^ 63)<=k/\k<2 ^ 63/\x.length * k.toNat<=sizeLine then some (.str (List.replicate k.toNat x).flatten) else none
 | .tup xs,.int k=>if -(2 ^ 63)<=k/\k<2 ^ 63/\xs.length * k.toNat<=sizeLine then some (.tup (List.replicate k.toNat xs).flatten) else none
 | .lst false xs,.int k=>if -(2 ^ 63)<=k/\k<2 ^ 63/\xs.length * k.toNat<=sizeLine then some (.lst false (List.replicate k.toNat xs).flatten) else none
 | _,_=>none
noncomputable def Gb (K:PySem.W.Frag):R2:=fun x y H Q=>rI CMul (fun i j=>.int (i * j)) x y H Q\/(∃ (i:Str) (k:Int),x=.str i/\y=.int k/\-(2 ^ 63)<=k/\k<2 ^ 63/\i.length * k.toNat<=sizeLine/\Q (.str (Txt.mul i k)) H)\/He K x y H Q\/J6 x y H Q
theorem CT:OpR X (binaryOp .Mult) (Gb X.K):=op_mul.or (op_mul_str.or (op_repT.or Fb))
theorem GZ (K:PySem.W.Frag):ROk K (Gb K) gN:=by
 intro G H x y dx dy d Q s rx ry e q
 unfold gN at e
 split at e
 ·split at e
  ·rename_i hc
   cases e
   exact .inl ⟨_,_,rx.int_inv,ry.int_inv,hc,q _ G H (.refl s) (.int _)⟩
  ·cases e
 ·split at e
  ·rename_i hc
   cases e
   obtain ⟨i,rfl,ei,hi⟩:=rx.str_inv
   subst ei
   rw [Str.len_list] at hc
   exact .inr (.inl ⟨i,_,rfl,ry.int_inv,hc.1,hc.2.1,hc.2.2,q _ G H (.refl s) (.strL (Cy i _) (by rw [nV,Str.len_list,Nat.mul_comm];exact hc.2.2))⟩)
  ·cases e
 ·split at e
  ·rename_i k hc
   cases e
   obtain ⟨a,vs,rfl,ha,ra⟩:=rx.tup_inv
   refine .inr (.inr (.inl ⟨a,_,vs,rfl,ry.int_inv,ha.mono s,hc.1,hc.2.1,by rw [ra.length];exact hc.2.2,fun z=>?_,fun _ _ p hp=>q _ _ _ (.new s hp) (.tup (.of aM) ((ra.rep _).mono (.into (s.free hp))))⟩))
   rcases z with z|z
   ·subst z
    cases ra
    have e:(List.replicate k.toNat ([]:List D)).flatten=[]:=by simp
    rw [e] at q
    exact q _ G H (.refl s) (.tup ha .nil)
   ·subst z
    have e:∀ l:List D,(List.replicate (1:Int).toNat l).flatten=l:=fun l=>by show (List.replicate 1 l).flatten=l;simp
    rw [e] at q
    exact q _ G H (.refl s) (.tup ha ra)
  ·cases e
 ·split at e
  ·rename_i hc
   cases e
   obtain ⟨a,vs,rfl,ha,ra⟩:=rx.lst_inv
   exact .inr (.inr (.inr ⟨a,_,vs,rfl,ry.int_inv,s _ _ ha,hc.1,hc.2.1,by rw [ra.length];exact hc.2.2,fun p hp=>q _ _ _ (.new s hp) (.lst aM ((ra.rep _).mono (.into (s.free hp))))⟩))
  ·cases e
 ·cases e
theorem fI {a b:Expr} {ga:Ev->R D} (ha:PF X a ga) (hb:PF X b gb):PF X (.BinOp a .Mult b pos) (g2 gN ga gb):=qB CT (GZ _) ha hb
end
end L2
namespace L2
open PySem PySem.W PySem.Spec PySem.Calls PyProof.Rows
structure ExcCls (K:Frag) (C:Addr):Prop where
 ga:findIn K (.ref C) "__getattribute__"=some (some (.builtin "BaseException.__getattribute__"))
 gt:findIn K (.ref C) "__getattr__"=some none
 cl:findIn K (.ref C) "__class__"=some (some (.builtin "object.__class__"))
 sp:specialIn K (.builtin "object.__class__") "__get__"=some (some (.builtin "getset_descriptor.__get__"))
 tk:takesIn K (.builtin "object.__class__")=some true
 mo:mroIn K C (.type "object")=some true
 be:subIn K (.ref C) (.type "BaseException")=some true
 some:(clsIn K C).isSome=true
section
variable {prog:Program} {w:World} {A:Around} {K:Frag}
section
open Builtin Builtin.ObjectAttr Builtin.Getset_descriptor
end
end
section
variable {A:Around} {Q:Value->Shared->Prop}
noncomputable def tyN:D->Option String
 | .non=>some "NoneType"
 | .bl _=>some "bool"
 | .int _=>some "int"
 | .str _=>some "str"
 | .tup _=>some "tuple"
 | .lst _ _=>some "list"
 | .exc _=>none
 | .dct _ _=>none
theorem FQ {x:V} {c:Value} {T:String} {b:Bool} (I:Inv X pins σ H s) (sub:Same G H) (r:Rep X.K G x d) (ru:RelV x u) (ht:tyN d=some T) (e:kitOne X.K (.type T) c=some b) (h:∀ tk,Q (.bool b) { s with toks:=tk }) :
  wpAny (model X.prog X.w) A (call (.builtin "isinstance") [u,c]) Q E s:=by
 cases r with
 | non=>cases ht;cases ru;exact kia_one kitx_none I.kIn True.intro e (fun z=>nomatch z) h
 | bl y=>cases ht;cases ru;exact kia_one kitx_bool I.kIn True.intro e (fun z=>nomatch z) h
 | int i=>cases ht;obtain ⟨t,rfl⟩:=ru;exact kia_one kitx_int I.kIn True.intro e (fun z=>nomatch z) h
 | str y hy=>cases ht;obtain ⟨t,rfl⟩:=ru;exact kia_one kitx_str I.kIn True.intro e (fun z=>nomatch z) h
 | tup hh t=>
  cases ht;cases ru
  obtain ⟨its,rv,⟨o,h1,h2,_⟩,_⟩:=I.tuple (hh.mono sub)
  exact kia_one kitx_tuple I.kIn ⟨o,h1,h2⟩ e (fun z=>nomatch z) h
 | lst hh t=>
  cases ht;cases ru
  obtain ⟨its,rv,⟨o,n,h1,h2,_⟩,_⟩:=I.list ((SqL.of hh:SqL X.K G _ _).mono sub)
  exact kia_one kitx_list I.kIn ⟨o,h1,h2⟩ e (fun z=>nomatch z) h
 | fls hh t=>
  cases ht;cases ru
  obtain ⟨its,rv,⟨o,n,h1,h2,_⟩,_⟩:=I.list (hh.mono sub)
  exact kia_one kitx_list I.kIn ⟨o,h1,h2⟩ e (fun z=>nomatch z) h
 | exc hh=>cases ht
 | dct _ _ _=>cases ht
end
section
variable {e:Expr} {ga:Ev->R D} {p p2:Pos}
noncomputable def iJ (f:String->Bool) (d:D):R D:=match tyN d with
 | some t=>.ok (.bl (f t))
 | none=>.no
theorem lm {T:String} (f:String->Bool) (hf:∀ K:Frag,∀ t∈["NoneType","bool","int","str","tuple","list"],kitOne K (.type t) (.type T)=some (f t)) (hg:Gl X "isinstance") (hm:X.mg "isinstance"=none) (hg2:Gl X y) (hm2:X.mg y=none)
 (hv:bootBuiltins y=some (.type T)) (ha:PF X e ga) (hs1:starEach [e,.Name y p2] X.env=(false,eval e X.env)::starEach [.Name y p2] X.env:=by rfl)
 (hn:y ≠ "__name__":=by decide) (hdb:(y==("__debug__":Str))=false:=by decide) :
  PF X (.Call (.Name "isinstance" p) [e,.Name y p2] [] pos) (fun ρ=>ga ρ>>=iJ f):=by
 intro pins s σ H Q I h
 have hc:jN X (.builtin "isinstance") (fun xs H Q=>∃ x G d,xs=[x,.ty T]/\Same G H/\Rep X.K G x d/\∃ t,tyN d=some t/\Q (.bl (f t)) H):=by
  intro pins s σ H xs us Q I r ⟨x,G,d,ex,sub,rd,t,et,q⟩
  subst ex
  obtain ⟨u,u2,rfl,r1,r2⟩:=r.two
  cases r2
  refine FQ I sub rd r1 et (hf X.K t ?_) fun tk=>⟨.bl (f t),H,I.tok tk,rfl,q⟩
  cases d <;> cases et <;> simp
 refine nD hc hg hm PyProof.Rows.Boot.«isinstance» (dJ ha (dJ (CL (v:=.ty T) hg2 hm2 hv rfl hn hdb) jb) hs1) (by decide) (by decide) hs1 rfl pins s σ H Q I ?_
 obtain ⟨G,ρ,st,h⟩:=h
 refine tG.intro st h fun x v G1 H1 u1 st1 r1 h1=>?_
 refine ⟨v,G1,x,rfl,st1.sub,r1,?_⟩
 unfold iJ at h1
 cases et:tyN x with
 | none=>rw [et] at h1;exact h1.elim
 | some t=>rw [et] at h1;exact ⟨t,rfl,h1 _ G1 H1 (.refl st1.sub) (.bl _)⟩
end
end L2
namespace L2
open PySem PySem.Spec PyProof.Rows
noncomputable def zi:List D->Option (List Bool)
 | []=>some []
 | .bl b::ds=>(zi ds).map (b::·)
 | _=>none
theorem Reps.bls {K:PySem.W.Frag}:∀ {vs:List V} {ds:List D} {bs:List Bool},Reps K G vs ds->zi ds=some bs->vs=bs.map .bl
 | _,_,bs,.nil,e=>by cases e;rfl
 | _,_,bs,.cons r t,e=>by
  cases r with
  | bl b=>
   rename_i ds
   unfold zi at e
   cases q:zi ds with
   | none=>rw [q] at e;cases e
   | some cs=>rw [q] at e;cases e;rw [Reps.bls t q];rfl
  | _=>simp [zi] at e
theorem Vals.bls:∀ {bs:List Bool} {us:List Value},Vals (bs.map V.bl) us->us=bs.map Value.bool
 | [],_,.nil=>rfl
 | b::bs,_,.cons r t=>by rw [Vals.bls t,show _=Value.bool b from r];rfl
section
variable {e o:Expr} {ga:Ev->R D}
noncomputable def K7 (K:PySem.W.Frag) (f:List Bool->Bool):List V->Hp->VK->Prop:=fun xs H Q=>∃ p bs,xs=[.ref p]/\SqL K H p (bs.map V.bl)/\Q (.bl (f bs)) H
theorem yT (A:Around) (prog:Program) (w:World) (bs:List Bool):TruthOf prog w A (fun i v=>(bs.map Value.bool).toArray[i]?=some v) (fun i=>bs.getD i true):=by
 intro i v s Q E hP hQ
 rw [List.getElem?_toArray,List.getElem?_map] at hP
 cases q:bs[i]? with
 | none=>rw [q] at hP;cases hP
 | some b=>
  rw [q] at hP
  cases hP
  have e:bs.getD i true=b:=by rw [List.getD_eq_getElem?_getD,q];rfl
  have hQ:Q (bs.getD i true) s:=hQ
  rw [e] at hQ
  exact wpAny_truthy_bool hQ
theorem wv (hc:X.calm=true):jN X (.builtin "all") (K7 X.K fun bs=>bs.all id):=by
 intro pins s σ H xs us Q I r ⟨p,bs,ex,hs,q⟩
 subst ex
 obtain ⟨u,rfl,r1⟩:=r.one
 cases r1
 obtain ⟨its,rv,pl,hz⟩:=I.list hs
 obtain rfl:=rv.bls
 have hh:X.A.in1.handled=none:=I.ok.hd hc
 have hlt:p<s.heap.objs.size:=by obtain ⟨o,n,e,_⟩:=id pl;exact Heap.lt_size e
 refine call_all_walk (wpAny_pyIter_list pl.isList ?_)
 refine ⟨s.heap.objs.size,[s.heap.objs.size,p],[s.heap.objs.size],_,_,_,fun i=>bs.getD i true,rfl,Walks.list hh s.heap.objs.size p (Nat.ne_of_lt hlt) (bs.map Value.bool).toArray,⟨⟨_,Heap.get?_push_size _ rfl,rfl,rfl⟩,?_⟩,yT _ _ _ bs,fun h' tk hk=>?_⟩
 ·obtain ⟨o,n,e,c,_,d⟩:=id pl
  exact ⟨o,Heap.get?_push_of_some _ e,c,n,d⟩
 ·have e:(List.range (bs.map Value.bool).toArray.size).all (fun i=>bs.getD i true)=bs.all id:=by
   rw [List.size_toArray,List.length_map];exact kG rfl
  rw [e]
  refine ⟨.bl _,H,I.kept (t':=tk) fun b o eb=>hk b o (fun z=>?_) (Heap.get?_push_of_some _ eb),rfl,q⟩
  have:b=s.heap.objs.size:=by simpa using z
  exact Nat.lt_irrefl _ (this ▸ Heap.lt_size eb)
noncomputable def Ad:List D->Option D
 | [.lst _ ds]=>(zi ds).map fun bs=>.bl (bs.all id)
 | _=>none
theorem Hg {p:Pos} (hc:X.calm=true) (hg:Gl X "all") (hm:X.mg "all"=none) (ha:PFA X [e] gl) (he:starEach [e] X.env=[(false,eval e X.env)]:=by rfl):PF X (.Call (.Name "all" p) [e] [] pos) (fun ρ=>gl ρ>>=fun ds=>ofO (Ad ds)):=
 nJ (wv hc) (by
  intro G H xs ds d Q s r e q
  unfold Ad at e
  split at e
  ·rename_i f ds
   obtain ⟨v,rfl,r1⟩:=r.one
   obtain ⟨a,vs,rfl,h,t⟩:=r1.seq_inv
   cases eb:zi ds with
   | none=>rw [eb] at e;cases e
   | some bs=>
    rw [eb] at e
    cases e
    obtain rfl:=t.bls eb
    exact ⟨a,bs,rfl,h.mono s,q _ G H (.refl s) (.bl _)⟩
  ·cases e) hg hm PyProof.Rows.Boot.«all» ha (he:=by rw [he];rfl)
noncomputable def HS (K:PySem.W.Frag) (T:String) (r:V->List V->Hp->VK->Prop) (f:D->List D->Option D):Prop:=∀ (G H:Hp) (x:V) (xs:List V) (dx:D) (ds:List D) (d:D) (Q:VK),Same G H->Rep K G x dx->Reps K G xs ds->f dx ds=some d->Fin G H (Rep K) Q d->r x xs H Q
noncomputable def mf (T:String):D->Bool
 | .str _=>T=="str"
 | .lst _ _=>T=="list"
 | _=>false
theorem xU {T id:String} {name:Str} {ap cp:Pos} {r:V->List V->Hp->VK->Prop} {f:D->List D->Option D} (pa:PlainAttrs T) (slot:PySem.Slot T name id) (hty:typeOf (.builtin id)=pure (.type "method_descriptor")) (hm:MtR X id r) (hf:HS X.K T r f) (ho:PF X o ga) (ha:PFA X (e::es) gl)
 (hbase:attributeBase o name X.env (eval o X.env)=eval o X.env:=by rfl)
 (hfew:((backTo cp (starEach (e::es) X.env)).all (fun x=>!x.1) && (backToKw cp (keywordEach [] X.env)).all (fun x=>x.1.isSome)
 && decide ((e::es).length+([]:List Keyword).length+(if ([]:List Keyword).isEmpty then 0 else 1)<30))=true:=by rfl)
 (hline:(ap.endLine==cp.line)=true:=by rfl) (hs:starEach (e::es) X.env=(false,eval e X.env)::starEach es X.env:=by rfl) (hplain:(backTo cp (starEach es X.env)).any (·.1)=false:=by rfl) :
  PF X (.Call (.Attribute o name ap) (e::es) [] cp) (fun ρ=>ga ρ>>=fun x=>if mf T x=true then gl ρ>>=fun ds=>ofO (f x ds) else .no):=by
 intro pins s σ H Q I h
 refine Bp pa slot hty hm ho ha hbase hfew hline hs hplain pins s σ H Q I ?_
 obtain ⟨G,ρ,st,h⟩:=h
 refine tG.intro st h fun x v G1 H1 u1 st1 r1 h1=>?_
 by_cases hk:mf T x=true
 ·rw [if_pos hk] at h1
  have ty:tyV X.K T v H1:=by
   cases r1 with
   | str y hy=>exact show T="str" by simpa [mf] using hk
   | lst hh t=>exact .inl ⟨by simpa [mf] using hk,_,.of (st1.sub _ _ hh)⟩
   | fls hh t=>exact .inl ⟨by simpa [mf] using hk,_,hh.mono st1.sub⟩
   | _=>cases hk
  refine ⟨ty,tG.intro st1 h1 fun ds vs G2 H2 u2 st2 r2 h2=>?_⟩
  obtain ⟨d,e',q⟩:=ofO.ok h2
  exact hf G2 H2 v vs x ds d Q st2.sub (r1.mono u2.gg) r2 e' q
 ·rw [if_neg hk] at h1;exact h1.elim
noncomputable def bf (x y:List Nat):List Nat:=(Txt.rstripChars ⟨x.toArray⟩ ⟨y.toArray⟩).cps.toList
noncomputable def dM:D->List D->Option D
 | .str x,[.str y]=>some (.str (bf x y))
 | _,_=>none
theorem Str.of_list {x:List Nat} (e:y.cps.toList=x):(⟨x.toArray⟩:Str)=y:=by
 subst e;simp
noncomputable def xE:V->List V->Hp->VK->Prop:=fun x vs H Q=>∃ y z:Str,x=.str y/\vs=[.str z]/\y.length<=sizeLine/\Q (.str (Txt.rstripChars y z)) H
theorem yC:MtR X "str.rstrip" xE:=by
 intro pins s σ H x xs v us Q I rx rv ⟨y,z,ex,exs,hz,q⟩
 subst ex exs
 obtain ⟨t,rfl⟩:=rx
 obtain ⟨u,rfl,r1⟩:=rv.one
 obtain ⟨t',rfl⟩:=r1
 exact SCL.rstripChars (fun t'' k _=>⟨.str _,H,I.tok _,⟨_,rfl⟩,q⟩) hz
theorem xh (K:PySem.W.Frag):HS K "str" xE dM:=by
 intro G H x xs dx ds d Q s rx rs e q
 unfold dM at e
 split at e
 ·cases e
  obtain ⟨v,rfl,r1⟩:=rs.one
  obtain ⟨i,rfl,ei,hi⟩:=rx.str_inv
  obtain ⟨j,rfl,ej,hj⟩:=r1.str_inv
  refine ⟨i,j,rfl,rfl,hi,q _ G H (.refl s) (.strL ?_ ?_)⟩
  ·unfold bf;rw [Str.of_list ei,Str.of_list ej]
  ·unfold bf;rw [Str.of_list ei,Str.of_list ej,Str.len_list];exact Nat.le_trans (len_rstripChars i j) hi
 ·cases e
theorem yi {ap cp:Pos} (ho:PF X o ga) (ha:PFA X [e] gl) (hbase:attributeBase o "rstrip" X.env (eval o X.env)=eval o X.env:=by rfl)
 (hfew:((backTo cp (starEach [e] X.env)).all (fun x=>!x.1) && (backToKw cp (keywordEach [] X.env)).all (fun x=>x.1.isSome)
 && decide ([e].length+([]:List Keyword).length+(if ([]:List Keyword).isEmpty then 0 else 1)<30))=true:=by rfl)
 (hline:(ap.endLine==cp.line)=true:=by rfl) (hs:starEach [e] X.env=(false,eval e X.env)::starEach [] X.env:=by rfl) :
  PF X (.Call (.Attribute o "rstrip" ap) [e] [] cp) (fun ρ=>ga ρ>>=fun x=>if mf "str" x=true then gl ρ>>=fun ds=>ofO (dM x ds) else .no):=
 xU PySem.F.plainAttrs_str PySem.F.slot_str_rstrip PySem.F.type_str_rstrip yC (xh _) ho ha hbase hfew hline hs rfl
end
noncomputable def nO:List Nat->List D->Ev->R Ev
 | [],[],ρ=>.ok ρ
 | i::is,d::ds,ρ=>nO is ds (ρ.set i (some (.val d)))
 | _,_,_=>.no
theorem mM:∀ (is:List Nat) (ds:List D) (ρ:Ev) (C:Addr),nO is ds ρ ≠ .ex C
 | [],[],_,_=>by intro z;cases z
 | [],_::_,_,_=>by intro z;cases z
 | _::_,[],_,_=>by intro z;cases z
 | i::is,d::ds,ρ,C=>mM is ds _ C
section
variable {e:Expr} {ga:Ev->R D}
noncomputable def HD (X:Cx) (es:List Expr) (is:List Nat):Prop:=PGs X es (fun vs σ H Q=>∃ G₀ H₀ G ρ ds ρ',StR X.K G₀ H₀ G H σ ρ/\Reps X.K G vs ds/\nO is ds ρ=.ok ρ'/\∀ σ',StR X.K G₀ H₀ G H σ' ρ'->Q σ' H)
theorem nK:HD X [] []:=by
 intro pins s σ H vs us Q I r h
 obtain ⟨G₀,H₀,G,ρ,ds,ρ',sr,rd,e,q⟩:=h
 refine Ci pins s σ H vs us Q I r ?_
 cases rd with
 | nil=>cases e;exact ⟨rfl,q σ sr⟩
 | cons _ _=>cases e
theorem eY (i:Nat) {p:Pos} {is:List Nat} (hN:X.N.Nodup) (h2:HD X es is) (hi:X.N[i]?=some x:=by rfl) (hx:Loc X.env.scope x:=by first|exact Or.inl rfl|exact Or.inr rfl)
 (hs:(assignEach (.Name x p::es) X.env).map (·.2)=assign (.Name x p) X.env::(assignEach es X.env).map (·.2):=by rfl) (hf:X.fn x=true\/X.env.scope.names.lookup x=some .local:=by first|exact .inl rfl|exact .inr rfl) :
  HD X (.Name x p::es) (i::is):=by
 intro pins s σ H vs us Q I r h
 obtain ⟨G₀,H₀,G,ρ,ds,ρ',sr,rd,e,q⟩:=h
 refine Ag (gy (i:=i) hN hi hx hf) h2 hs pins s σ H vs us Q I r ?_
 cases rd with
 | nil=>cases e
 | cons r1 t1=>exact ⟨_,_,rfl,G₀,H₀,G,_,_,ρ',sr.set r1 i,t1,e,q⟩
noncomputable def Al (is:List Nat) (d:D) (ρ:Ev):R Ev:=match d with
 | .tup ds=>nO is ds ρ
 | _=>.no
theorem qP:∀ (is:List Nat) (ds:List D) (ρ ρ':Ev),nO is ds ρ=.ok ρ'->ds.length=is.length
 | [],[],_,_,_=>rfl
 | [],_::_,_,_,e=>by cases e
 | _::_,[],_,_,e=>by cases e
 | i::is,d::ds,ρ,ρ',e=>by simp [qP is ds _ ρ' e]
theorem rZ {is:List Nat} (hc:X.calm=true) (h:HD X es is) (hn:(assignEach es X.env).length=is.length:=by rfl) (hst:(assignEach es X.env).findIdx? (·.1)=none:=by rfl):PGF X (.Tuple es k pos) (Al is):=by
 intro pins s σ H v u Q I r q
 obtain ⟨G₀,H₀,G,ρ,d,ρ',sr,rd,e,q⟩:=q
 refine Gx hc h hn hst pins s σ H v u Q I r ?_
 cases rd with
 | tup hh t=>
  rename_i ds
  exact ⟨_,_,rfl,hh.mono sr.e.sub,by rw [t.length];exact qP is ds ρ ρ' e,G₀,H₀,G,ρ,ds,ρ',sr,t,e,q⟩
 | _=>cases e
theorem lJ (is:List Nat):∀ (d:D) (ρ:Ev) (C:Addr),Al is d ρ ≠ .ex C:=fun d ρ C=>by
 cases d with
 | tup ds=>exact mM is ds ρ C
 | _=>intro z;cases z
theorem Bc (i j:Nat) {a b:Expr} {px py pt pt2:Pos} {k2:Nat} (hc:X.calm=true) (hN:X.N.Nodup) (ha:PFA X [a,b] gl) (hij:i≠j) (hi:X.N[i]?=some x:=by rfl) (hj:X.N[j]?=some y:=by rfl)
 (hx:X.env.scope.names.lookup x=some .local:=by rfl) (hy:X.env.scope.names.lookup y=some .local:=by rfl)
 (hw:swappedStores [.Tuple [.Name x px,.Name y py] kt pt] (.Tuple [a,b] k2 pt2) X.env=pure (some [x,y]):=by rfl)
 (hs:swapsWithSole [.Tuple [.Name x px,.Name y py] kt pt] (.Tuple [a,b] k2 pt2) pos.line X.env=pure false:=by rfl) :
  PSF X (.Assign [.Tuple [.Name x px,.Name y py] kt pt] (.Tuple [a,b] k2 pt2) pos) (fun ρ=>(gl ρ).out ρ fun ds=>(nO [i,j] ds ρ).out ρ .nx):=fun G₀ H₀ pins s σ H D I h=>by
 refine EJ hc hN hi hj hij hx hy ha hw hs pins s σ H D I ?_
 obtain ⟨G,ρ,sr,h⟩:=h
 dsimp only at h
 refine ⟨G,ρ,sr.e,?_⟩
 cases q:gl ρ with
 | ok ds=>
  rw [q] at h
  simp only [R.out] at h
  intro vs G' H' u r
  cases r with
  | nil=>exact h.elim
  | cons r1 t1=>
   cases t1 with
   | nil=>exact h.elim
   | cons r2 t2=>
    cases t2 with
    | nil=>exact ⟨_,_,rfl,h _ G' H' (((sr.ups u).set r1 i).set r2 j)⟩
    | cons _ _=>exact h.elim
 | ex C=>rw [q] at h;exact Exx.of sr h
 | no=>rw [q] at h;exact h
theorem vW {np cp:Pos} {bm:List Value} {B newId initId:String} (Oc:OwnCls x C bm newId X.mg X.base) (FB:ExcBaseFacts B newId initId bm) (hh:X.A.handled=none) (hg:Gl X x) (ha:PFA X [e] gl)
 (hdb:(x==("__debug__":Str))=false:=by decide) (hs:starEach [e] X.env=(false,eval e X.env)::starEach [] X.env:=by rfl) (hz:∀ ρ ds,gl ρ=.ok ds->ds.length<=1:=by intro _ _ z;first|(cases z;decide)|skip) :
  PSF X (.Raise (some (.Call (.Name x np) [e] [] cp)) none pos) (fun ρ=>(gl ρ).out ρ fun _=>.ex C ρ):=fun G₀ H₀ pins s σ H D I h=>by
 obtain ⟨G,ρ,sr,h⟩:=h
 dsimp only at h
 obtain ⟨tl,N,nm,qn,bs,hdct,sn,sub,ab,col,dd,k0,k1,k2,k3,k5,mN,hC,hN,hni,T⟩:=Oc.obj
 refine wpAny_Raise_call_subT (C:=C) (nm:=nm) (q:=qn) (N:=N) (bs:=bs) (bm:=tl) (hdct:=hdct) (sn:=sn) (sub:=sub) (ab:=ab) (col:=col) (dd:=dd) (k0:=k0) (k1:=k1) (k2:=k2) (k3:=k3) (k5:=k5)
  FB (mN:=mN) (T.hasType FB.hasBase) hh (by rw [hs];rfl) hni (lM I hg Oc.bound ⟨rfl,?_⟩ hdb)
 have t:tAF X gl σ H (fun vs H1=>vs.length<=sizeLine/\∃ G1,Up G H G1 H1/\jj X G₀ H₀ D (.ex C ρ)):=by
  refine ⟨G,ρ,sr.e,?_⟩
  cases q:gl ρ with
  | ok ds=>
   rw [q] at h
   intro vs G1 H1 u r
   exact ⟨by rw [r.length];exact Nat.le_trans (hz ρ ds q) (by decide),G1,u,h⟩
  | ex C'=>rw [q] at h;exact Exx.of sr h
  | no=>rw [q] at h;exact h
 have hA:=ha cp pins s σ H _ I t
 rw [hs] at hA ⊢
 refine Calls.evalArgs_plain (wpAny_mono hA (fun vs s₂ q=>?_) fun _ _ y=>y)
 obtain ⟨vs',H1,I1,r,hz,G1,u,h⟩:=q
 exact ⟨rfl,by show vs.length<=sizeLine;rw [<- r.length];exact hz,I1.bk _ _ hC,hN.keeps I1.bk,T.keeps I1.bk,fun h' a made=>h _ _ (.of (sr.ups u) ⟨pins,s₂,a,rfl,I1,.inl ⟨h',vs,made,rfl⟩⟩)⟩
end
section
theorem Inv.cx {A':Around} {calm':Bool} {pn' pins':List (Addr×Obj)} {xe':Value->Shared->Prop} (I:Inv X pins σ H s) (hp:∀ p∈pn'++pins',p∈X.pn++pins) (hA:A'.frames=X.A.frames) (hd:calm'=true->A'.handled=none) :
  Inv { X with A:=A',calm:=calm',pn:=pn',xe:=xe' } pins' σ H s:=
 ⟨⟨I.ok.mod,I.ok.kind,I.ok.glob,I.ok.blt,I.ok.above,I.ok.inj,I.ok.has,I.ok.cab,hd,hA.trans I.ok.frames,I.ok.stk,I.ok.exf,I.ok.bs,I.ok.bsz,I.ok.noex,I.ok.exfs,I.ok.funs,I.ok.frf,I.ok.tabs⟩,
  I.os,I.bare,I.base,I.loc,I.cell,I.free,I.freeC,fun p q=>I.pin p (hp p q),I.hok,I.len⟩
end
noncomputable def Kn (gb gs:Ev->O) (f:Addr->Option Bool) (i:Nat):Ev->O:=fun ρ=>match gb ρ with
 | .ex C ρ'=>(match f C with
  | some true=>(match gs (ρ'.set i (some (.val (.exc C)))) with
   | .nx ρ''=>.nx (ρ''.set i none)
   | .rt d=>.rt d
   | _=>.no)
  | _=>.no)
 | o=>o
structure Callee (P:Program) (w:World) (K:PySem.W.Frag) (mg:Str->Option Value) (base:Heap) (x:Str) (k n:Nat) (g:List D->R D):Prop where
 ex:∃ f fd ps,FnF P w K mg base k f fd ps g/\mg x=some (.ref f)/\PySem.W.keepIn K (.ref f)=true/\Binds K fd ps []/\ps.length=n
theorem zp {n:Nat} {e:Expr} {p:Pos} (c:Callee X.prog X.w X.K X.mg X.base x k n g) (hr:Room k X.A) (ha:PFA X (e::es) gl) (hg:Gl X x:=by rfl)
 (hdb:(x==("__debug__":Str))=false:=by decide) (he:starEach (e::es) X.env=(false,eval e X.env)::starEach es X.env:=by rfl) (hpl:(backTo pos (starEach es X.env)).any (·.1)=false:=by rfl) :
  PF X (.Call (.Name x p) (e::es) [] pos) (fun ρ=>gl ρ>>=fun ds=>if ds.length=n then g ds else .no):=by
 obtain ⟨f,fd,ps,F,hm,hk,hb,rfl⟩:=c.ex
 exact Cw F hr hg hm hk hb ha hdb he hpl
theorem FnF.to {w:World} {K:PySem.W.Frag} {mg:Str->Option Value} {base:Heap} {g':List D->R D} (F:FnF P w K mg base k f fd ps g) (h:∀ ds,ds.length=ps.length->g' ds=.no\/g ds=g' ds):FnF P w K mg base k f fd ps g':=by
 refine F.imp fun vs H Q E ⟨hl,G,ds,sub,r,q⟩=>⟨hl,G,ds,sub,r,?_⟩
 rcases h ds (by rw [<- r.length];exact hl) with z|z
 ·rw [z] at q;exact q.elim
 ·rw [z];exact q
theorem Fun.callee {w:World} {K:PySem.W.Frag} {mg:Str->Option Value} {base:Heap} (F:Fun K x x st f fd) (hm:mg x=some (.ref f)) (ok:FnF P w K mg base k f fd ps g)
 (h:∀ (kV doc pm:Value) (an:Option Addr) (cdv ct:Value) (us:List Value),us.length=ps.length->bindArgs (PySem.W.fnOf x x (dN st) (aZ st) (ag st) .none kV doc pm an cdv ct) ⟨us,[]⟩=pure (ps.zip us)):Callee P w K mg base x k ps.length g:=
 ⟨f,fd,ps,ok,hm,F.kp,F.binds h,rfl⟩
theorem gL {T:String} {f:String->Bool} (h:∀ K:PySem.W.Frag,PySem.W.kitOne K (.type "NoneType") (.type T)=some (f "NoneType")/\PySem.W.kitOne K (.type "bool") (.type T)=some (f "bool")/\PySem.W.kitOne K (.type "int") (.type T)=some (f "int")/\
 PySem.W.kitOne K (.type "str") (.type T)=some (f "str")/\PySem.W.kitOne K (.type "tuple") (.type T)=some (f "tuple")/\PySem.W.kitOne K (.type "list") (.type T)=some (f "list")) :
  ∀ K:PySem.W.Frag,∀ t∈["NoneType","bool","int","str","tuple","list"],PySem.W.kitOne K (.type t) (.type T)=some (f t):=fun K t ht=>by
 obtain ⟨h1,h2,h3,h4,h5,h6⟩:=h K
 simp only [List.mem_cons,List.mem_nil_iff,or_false] at ht
 rcases ht with rfl|rfl|rfl|rfl|rfl|rfl <;> assumption
noncomputable def isInt (t:String):Bool:=t=="int" || t=="bool"
section
variable {e:Expr} {ga:Ev->R D} {p p2:Pos}
theorem zu (hm:X.mg "isinstance"=none) (ha:PF X e ga) (hm2:X.mg "int"=none) (hg2:Gl X "int":=by rfl) (hg:Gl X "isinstance":=by rfl) (hs1:starEach [e,.Name "int" p2] X.env=(false,eval e X.env)::starEach [.Name "int" p2] X.env:=by rfl):PF X (.Call (.Name "isinstance" p) [e,.Name "int" p2] [] pos) (fun ρ=>ga ρ>>=iJ isInt):=
 lm (T:="int") isInt (gL fun K=>⟨rfl,rfl,rfl,rfl,rfl,rfl⟩) hg hm hg2 hm2 PyProof.Rows.Boot.«int» ha hs1
theorem wI (hm:X.mg "isinstance"=none) (ha:PF X e ga) (hm2:X.mg "bool"=none) (hg2:Gl X "bool":=by rfl) (hg:Gl X "isinstance":=by rfl) (hs1:starEach [e,.Name "bool" p2] X.env=(false,eval e X.env)::starEach [.Name "bool" p2] X.env:=by rfl):PF X (.Call (.Name "isinstance" p) [e,.Name "bool" p2] [] pos) (fun ρ=>ga ρ>>=iJ (·=="bool")):=
 lm (T:="bool") (·=="bool") (gL fun K=>⟨rfl,rfl,rfl,rfl,rfl,rfl⟩) hg hm hg2 hm2 PyProof.Rows.Boot.«bool» ha hs1
theorem Bf (hm:X.mg "isinstance"=none) (ha:PF X e ga) (hm2:X.mg "str"=none) (hg2:Gl X "str":=by rfl) (hg:Gl X "isinstance":=by rfl) (hs1:starEach [e,.Name "str" p2] X.env=(false,eval e X.env)::starEach [.Name "str" p2] X.env:=by rfl):PF X (.Call (.Name "isinstance" p) [e,.Name "str" p2] [] pos) (fun ρ=>ga ρ>>=iJ (·=="str")):=
 lm (T:="str") (·=="str") (gL fun K=>⟨rfl,rfl,rfl,rfl,rfl,rfl⟩) hg hm hg2 hm2 PyProof.Rows.Boot.«str» ha hs1
theorem uP (hm:X.mg "isinstance"=none) (ha:PF X e ga) (hm2:X.mg "tuple"=none) (hg2:Gl X "tuple":=by rfl) (hg:Gl X "isinstance":=by rfl) (hs1:starEach [e,.Name "tuple" p2] X.env=(false,eval e X.env)::starEach [.Name "tuple" p2] X.env:=by rfl):PF X (.Call (.Name "isinstance" p) [e,.Name "tuple" p2] [] pos) (fun ρ=>ga ρ>>=iJ (·=="tuple")):=
 lm (T:="tuple") (·=="tuple") (gL fun K=>⟨rfl,rfl,rfl,rfl,rfl,rfl⟩) hg hm hg2 hm2 PyProof.Rows.Boot.«tuple» ha hs1
theorem ye (hm:X.mg "isinstance"=none) (ha:PF X e ga) (hm2:X.mg "list"=none) (hg2:Gl X "list":=by rfl) (hg:Gl X "isinstance":=by rfl) (hs1:starEach [e,.Name "list" p2] X.env=(false,eval e X.env)::starEach [.Name "list" p2] X.env:=by rfl):PF X (.Call (.Name "isinstance" p) [e,.Name "list" p2] [] pos) (fun ρ=>ga ρ>>=iJ (·=="list")):=
 lm (T:="list") (·=="list") (gL fun K=>⟨rfl,rfl,rfl,rfl,rfl,rfl⟩) hg hm hg2 hm2 PyProof.Rows.Boot.«list» ha hs1
end
noncomputable def cA (ga:Ev->R D):Ev->O:=fun ρ=>(ga ρ).out ρ .rt
noncomputable def aH (g1 g2:Ev->O):Ev->O:=fun ρ=>(g1 ρ).seq g2
noncomputable def oIf (gt:Ev->R Bool) (g1 g2:Ev->O):Ev->O:=fun ρ=>(gt ρ).out ρ fun k=>if k=true then g1 ρ else g2 ρ
noncomputable def oNx:Ev->O:=fun ρ=>.nx ρ
noncomputable def fP (i:Nat) (ga:Ev->R D):Ev->O:=fun ρ=>(ga ρ).out ρ fun d=>.nx (ρ.set i (some (.val d)))
noncomputable def EZ (i:Nat) (gl:Ev->R (List D)):Ev->O:=fun ρ=>(gl ρ).out ρ fun ds=>.nx (ρ.set i (some (.own ds)))
noncomputable def oe (ga:Ev->R D):Ev->O:=fun ρ=>(ga ρ).out ρ fun _=>.nx ρ
noncomputable def vQ (asg:D->Ev->R Ev) (gi:Ev->R (List D)) (g:Ev->O):Ev->O:=fun ρ=>(gi ρ).out ρ fun items=>cN asg g items ρ
noncomputable def lv (C:Addr) (gl:Ev->R (List D)):Ev->O:=fun ρ=>(gl ρ).out ρ fun _=>.ex C ρ
noncomputable def K9 (asg:D->Ev->R Ev) (ga:Ev->R D):Ev->O:=fun ρ=>(ga ρ).out ρ fun d=>(asg d ρ).out ρ .nx
noncomputable def Ft (i:Nat) (g:Ev->O):Ev->O:=fun ρ=>g (frz i ρ)
noncomputable def aI {α β:Type} (f:α->R β) (ga:Ev->R α):Ev->R β:=fun ρ=>ga ρ>>=f
noncomputable def gOf (f:List D->Option D) (gl:Ev->R (List D)):Ev->R D:=fun ρ=>gl ρ>>=fun ds=>ofO (f ds)
noncomputable def aa (ga:Ev->R D) (gl:Ev->R (List D)):Ev->R (List D):=fun ρ=>ga ρ>>=fun x=>gl ρ>>=fun xs=>.ok (x::xs)
noncomputable def aK (n:Nat) (g:List D->R D) (gl:Ev->R (List D)):Ev->R D:=fun ρ=>gl ρ>>=fun ds=>if ds.length=n then g ds else .no
noncomputable def cz (gl:Ev->R (List D)):Ev->R D:=fun ρ=>gl ρ>>=fun ds=>.ok (.lst false ds)
noncomputable def wB (gl:Ev->R (List D)):Ev->R (List D):=fun ρ=>gl ρ>>=fun ds=>if ds.length<=sizeLine then .ok ds else .no
noncomputable def gB2 (f:D->D->Option D) (ga gb:Ev->R D):Ev->R Bool:=fun ρ=>g2 f ga gb ρ>>=asB
noncomputable def gB3 (f f':D->D->Option D) (ga gb gc:Ev->R D):Ev->R Bool:=fun ρ=>g3 f f' ga gb gc ρ>>=asB
noncomputable def gBn (gt:Ev->R Bool):Ev->R Bool:=fun ρ=>gt ρ>>=fun k=>.ok (!k)
noncomputable def jH (ga:Ev->R D):Ev->R (Option Int):=fun ρ=>ga ρ>>=fun x=>asI x>>=fun i=>.ok (some i)
noncomputable def lU (T:String) (f:D->List D->Option D) (ga:Ev->R D) (gl:Ev->R (List D)):Ev->R D:=fun ρ=>ga ρ>>=fun x=>if mf T x=true then gl ρ>>=fun ds=>ofO (f x ds) else .no
theorem Callee.mono {w:World} {K:PySem.W.Frag} {mg:Str->Option Value} {base:Heap} {n:Nat} (c:Callee P w K mg base x k n g) (k':Nat) (h:k<=k':=by decide):Callee P w K mg base x k' n g:=by
 obtain ⟨f,fd,ps,F,hm,hk,hb,e⟩:=c.ex
 exact ⟨f,fd,ps,{ F with run:=fun A outer s H args us vs Q E hr=>F.run A outer s H args us vs Q E (hr.mono h) },hm,hk,hb,e⟩
section
variable {di body sa sb:List Stmt} {e a b c o tg:Expr} {g gs1 gs2:Ev->O} {ga gc:Ev->R D} {gt:Ev->R Bool} {p p2:Pos}
theorem af (h1:PSF X st gs1) (h2:oJ X di gs2):oJ X (st::di) (aH gs1 gs2):=vh h1 h2
theorem aE:oJ X [] oNx:=yE
theorem bq (he:PF X e ga):PSF X (.Return (some e) pos) (cA ga):=AR he
theorem iC (hc:PB X c gt) (ha:oJ X sa gs1) (hb:oJ X sb gs2):PSF X (.If c sa sb pos) (oIf gt gs1 gs2):=Cz hc ha hb
theorem Ic (i:Nat) (hN:X.N.Nodup) (he:PF X e ga) (hi:X.N[i]?=some x:=by rfl) (hx:Loc X.env.scope x:=by first|exact Or.inl rfl|exact Or.inr rfl)
 (hs:swapsWithSole [.Name x p] e pos.line X.env=pure false:=by rfl) (hw:swappedStores [.Name x p] e X.env=pure none:=by rfl) (hf:X.fn x=true\/X.env.scope.names.lookup x=some .local:=by first|exact .inl rfl|exact .inr rfl) :
  PSF X (.Assign [.Name x p] e pos) (fP i ga):=Ab i hN he hi hx hs hw hf
theorem EB (i:Nat) (hN:X.N.Nodup) (he:PFL X e gl) (hi:X.N[i]?=some x:=by rfl) (hx:Loc X.env.scope x:=by first|exact Or.inl rfl|exact Or.inr rfl)
 (hs:swapsWithSole [.Name x p] e pos.line X.env=pure false:=by rfl) (hw:swappedStores [.Name x p] e X.env=pure none:=by rfl) (hf:X.fn x=true\/X.env.scope.names.lookup x=some .local:=by first|exact .inl rfl|exact .inr rfl) :
  PSF X (.Assign [.Name x p] e pos) (EZ i gl):=Av i hN he hi hx hs hw hf
theorem kJ (he:PF X e ga) (hs:swapsWith e none pos.line X.env=pure false:=by rfl):PSF X (.Expr e pos) (oe ga):=ym he hs
theorem qO (hp:PassesOwn (model X.prog X.w) X.A X.env X.xe) (hcalm:X.calm=true) (hi:PIF X tg iter gi) (hg:PGF X tg asg) (hb:oJ X body g)
 (hs:∀ x,foldedSetIterable iter X.env x=pure x:=by intro _;rfl) (hn:∀ d ρ C,asg d ρ ≠ .ex C:=by intro _ _ _ z;cases z):PSF X (.For tg iter body [] pos) (vQ asg gi g):=zP hp hcalm hi hg hb hs hn
theorem dW (hg:Gl X "len") (hm:X.mg "len"=none) (ha:PFA X [e] gl) (he:starEach [e] X.env=[(false,eval e X.env)]:=by rfl):PF X (.Call (.Name "len" p) [e] [] pos) (gOf fu gl):=Hf hg hm ha he
theorem Dy (hc:X.calm=true) (hg:Gl X "all") (hm:X.mg "all"=none) (ha:PFA X [e] gl) (he:starEach [e] X.env=[(false,eval e X.env)]:=by rfl):PF X (.Call (.Name "all" p) [e] [] pos) (gOf Ad gl):=Hg hc hg hm ha he
theorem ac (ha:PF X e ga) (hr:PFA X es gl) (hs:starEach (e::es) X.env=(false,eval e X.env)::starEach es X.env:=by rfl):PFA X (e::es) (aa ga gl):=zR ha hr hs
theorem aF {n:Nat} {f:List D->R D} (c:Callee X.prog X.w X.K X.mg X.base x k n f) (hr:Room k X.A) (ha:PFA X (e::es) gl) (hg:Gl X x:=by rfl)
 (hdb:(x==("__debug__":Str))=false:=by decide) (he:starEach (e::es) X.env=(false,eval e X.env)::starEach es X.env:=by rfl) (hpl:(backTo pos (starEach es X.env)).any (·.1)=false:=by rfl) :
  PF X (.Call (.Name x p) (e::es) [] pos) (aK n f gl):=zp c hr ha hg hdb he hpl
theorem iQ {gens:List Comprehension} {sc:Scope} (h:PFL X (.ListComp e gens sc pos) gl):PF X (.ListComp e gens sc pos) (cz gl):=uc h
theorem wo (h:PFL X (.List es pos) gl):PF X (.List es pos) (cz gl):=uc h
theorem qN (h:PFA X es gl):PFL X (.List es pos) (wB gl):=C6 h
theorem eR (h:PFA X es gl):PF X (.Tuple es k pos) (aI mkT gl):=GY h
theorem Bj (ha:PF X a ga):PF X (.UnaryOp .USub a pos) (aI A3 ga):=Hm ha
theorem Ej (hm:X.mg "isinstance"=none) (ha:PF X e ga) (hm2:X.mg "int"=none) (hg2:Gl X "int":=by rfl) (hg:Gl X "isinstance":=by rfl) (hs1:starEach [e,.Name "int" p2] X.env=(false,eval e X.env)::starEach [.Name "int" p2] X.env:=by rfl):PF X (.Call (.Name "isinstance" p) [e,.Name "int" p2] [] pos) (aI (iJ isInt) ga):=zu hm ha hm2 hg2 hg hs1
theorem AG (hm:X.mg "isinstance"=none) (ha:PF X e ga) (hm2:X.mg "bool"=none) (hg2:Gl X "bool":=by rfl) (hg:Gl X "isinstance":=by rfl) (hs1:starEach [e,.Name "bool" p2] X.env=(false,eval e X.env)::starEach [.Name "bool" p2] X.env:=by rfl):PF X (.Call (.Name "isinstance" p) [e,.Name "bool" p2] [] pos) (aI (iJ (·=="bool")) ga):=wI hm ha hm2 hg2 hg hs1
theorem Ei (hm:X.mg "isinstance"=none) (ha:PF X e ga) (hm2:X.mg "str"=none) (hg2:Gl X "str":=by rfl) (hg:Gl X "isinstance":=by rfl) (hs1:starEach [e,.Name "str" p2] X.env=(false,eval e X.env)::starEach [.Name "str" p2] X.env:=by rfl):PF X (.Call (.Name "isinstance" p) [e,.Name "str" p2] [] pos) (aI (iJ (·=="str")) ga):=Bf hm ha hm2 hg2 hg hs1
theorem iP (hm:X.mg "isinstance"=none) (ha:PF X e ga) (hm2:X.mg "tuple"=none) (hg2:Gl X "tuple":=by rfl) (hg:Gl X "isinstance":=by rfl) (hs1:starEach [e,.Name "tuple" p2] X.env=(false,eval e X.env)::starEach [.Name "tuple" p2] X.env:=by rfl):PF X (.Call (.Name "isinstance" p) [e,.Name "tuple" p2] [] pos) (aI (iJ (·=="tuple")) ga):=uP hm ha hm2 hg2 hg hs1
theorem iG (h:PF X e ga):PFO X (some e) (jH ga):=An h
theorem A1 (ha:PF X a ga) (hb:PF X b gb):PB X (.Compare a [.Lt] [b] pos) (gB2 ltD ga gb):=HJ ha hb
theorem Iu (ha:PF X a ga) (hb:PF X b gb):PB X (.Compare a [.LtE] [b] pos) (gB2 leD ga gb):=Jv ha hb
theorem Gv (ha:PF X a ga) (hb:PF X b gb):PB X (.Compare a [.Gt] [b] pos) (gB2 gtD ga gb):=JD ha hb
theorem vK (hu:X.A.units+64<cLine) (ha:PF X a ga) (hb:PF X b gb):PB X (.Compare a [.Eq] [b] pos) (gB2 eqF ga gb):=H8 hu ha hb
theorem ml (hu:X.A.units+64<cLine) (ha:PF X a ga) (hb:PF X b gb):PB X (.Compare a [.NotEq] [b] pos) (gB2 neF ga gb):=JH hu ha hb
theorem IS (ha:PF X a ga) (hb:PF X b gb):PB X (.Compare a [.Is] [b] pos) (gB2 isF ga gb):=JF ha hb
theorem Eo (ha:PF X a ga) (hb:PF X b gb) (hc:PF X c gc) (hm:lastMarks [.LtE,.LtE] [b,c]=false:=by with_unfolding_all rfl):PB X (.Compare a [.LtE,.LtE] [b,c] pos) (gB3 leD leD ga gb gc):=C8 ha hb hc hm
theorem fJ (ha:PB X a gt):PB X (.UnaryOp .Not a pos) (gBn gt):=F5 ha
theorem gB (h:PF X (.Call a es [] pos) ga):PB X (.Call a es [] pos) (aI jM ga):=wU h
theorem pO {op:BoolOp} (h:PBW X (.BoolOp op es pos) gt):PB X (.BoolOp op es pos) gt:=fun pins s σ H Q I q=>h _ pins s σ H Q I q
theorem nz {ap cp:Pos} (ho:PF X o ga) (ha:PFA X [e] gl) (hbase:attributeBase o "rstrip" X.env (eval o X.env)=eval o X.env:=by rfl)
 (hfew:((backTo cp (starEach [e] X.env)).all (fun x=>!x.1) && (backToKw cp (keywordEach [] X.env)).all (fun x=>x.1.isSome)
 && decide ([e].length+([]:List Keyword).length+(if ([]:List Keyword).isEmpty then 0 else 1)<30))=true:=by rfl)
 (hline:(ap.endLine==cp.line)=true:=by rfl) (hs:starEach [e] X.env=(false,eval e X.env)::starEach [] X.env:=by rfl) :
  PF X (.Call (.Attribute o "rstrip" ap) [e] [] cp) (lU "str" dM ga gl):=yi ho ha hbase hfew hline hs
theorem hW (ha:PF X a ga):PIF X tg a (aI bU ga):=Cm ha
theorem nZ (hg:Gl X "range") (hm:X.mg "range"=none) (ha:PFA X [a] gl) (hs:starEach [a] X.env=[(false,eval a X.env)]:=by rfl):PIF X tg (.Call (.Name "range" p) [a] [] pos) (aI cu gl):=vn hg hm ha hs
end
@[simp] theorem R.ok_out {α:Type} (a:α) (ρ:Ev) (k:α->O):(R.ok a).out ρ k=k a:=rfl
@[simp] theorem R.ex_out {α:Type} (C:Addr) (ρ:Ev) (k:α->O):(R.ex C:R α).out ρ k=.ex C ρ:=rfl
@[simp] theorem lj {α:Type} (a:α):fK (R.ok a)=R.ok a:=rfl
theorem pR {gt:Ev->R Bool} {ge:Ev->R D} (p:D->Bool) (h:D->D) (tl:Ev):∀ (ds:List D) (a:Option Sl),(∀ d∈ds,gt (some (.val d)::tl)=.ok (p d)/\(p d=true->ge (some (.val d)::tl)=.ok (h d)))->fM gt ge ds (a::tl)=.ok ((ds.filter p).map h)
 | [],a,_=>rfl
 | d::ds,a,H=>by
  have ih:=pR p h tl ds (some (.val d)) fun x m=>H x (List.mem_cons_of_mem _ m)
  obtain ⟨e1,e2⟩:=H d (List.mem_cons_self ..)
  show (fK (gt (some (.val d)::tl))>>=fun k=>if k=true then fK (ge (some (.val d)::tl))>>=fun x=>fM gt ge ds (some (.val d)::tl)>>=fun xs=>.ok (x::xs) else fM gt ge ds (some (.val d)::tl))=_
  rw [e1,lj,R.ok_bind,ih]
  cases q:p d with
  | true=>rw [if_pos rfl,e2 q,lj,R.ok_bind,R.ok_bind,List.filter_cons_of_pos q];rfl
  | false=>rw [if_neg Bool.false_ne_true,List.filter_cons_of_neg (by rw [q];exact Bool.false_ne_true)]
theorem iW {gt:Ev->R Bool} (h:D->D) (tl:Ev) (ds:List D) (a:Option Sl) (H:∀ d∈ds,gt (some (.val d)::tl)=.ok true/\ge (some (.val d)::tl)=.ok (h d)):fM gt ge ds (a::tl)=.ok (ds.map h):=by
 rw [pR (fun _=>true) h tl ds a fun d m=>⟨(H d m).1,fun _=>(H d m).2⟩,List.filter_eq_self.2 fun _ _=>rfl]
theorem tU (f:D->Bool):∀ ds:List D,zi (ds.map fun d=>.bl (f d))=some (ds.map f)
 | []=>rfl
 | d::ds=>by
  have ih:=tU f ds
  rw [List.map_cons,List.map_cons]
  unfold zi
  first|(rw [ih];rfl)|(simp only [ih];rfl)|simp [ih]
theorem jX (f:D->Bool) (k:Bool) (ds:List D):Ad [.lst k (ds.map fun d=>.bl (f d))]=some (.bl (ds.all f)):=by
 show (zi (ds.map fun d=>.bl (f d))).map _=_
 rw [tU]
 show some (D.bl ((ds.map f).all id))=_
 rw [List.all_map];rfl
theorem wD (a b:Nat):(!decide (([b]:List Nat)<[a]))=decide (a<=b):=by
 have:(([b]:List Nat)<[a]) ↔ b<a:=by
  constructor
  ·intro h
   cases h with
   | rel h=>exact h
   | cons h=>cases h
  ·intro h;exact .rel h
 by_cases h:a<=b
 ·have h2 : ¬ ([b]:List Nat)<[a]:=fun q=>by have:=this.1 q;omega
  simp [h,h2]
 ·have h2:([b]:List Nat)<[a]:=this.2 (by omega)
  simp [h,h2]
theorem fG {N':List Str} (hk:scope.kind=.function:=by rfl)
 (h1:(∀ y∈scope.names,y.2 ≠ .cell)/\(∀ y∈scope.names,y.2=.local->scope.names.lookup y.1=some .local)/\scope.names.lookup x=some .local/\(∀ y∈scope.names,y.2=.free->y.1∈N'.tail)/\N'.Nodup/\N'[0]?=some x/\
 ∀ y∈N'.tail,scope.names.lookup y=some .free/\(y,NameKind.free)∈scope.names:=by decide +kernel)
 (h2:N'.tail.map X.env.kindOf=N'.tail.map fun _=>some NameKind.cell:=by rfl) (h3:N'.tail=ix.map (fun (i:Nat)=>X.N.getD i Str.empty):=by rfl) (h4:ix.all (fun i=>decide (i<X.N.length))=true:=by rfl):CompOk X scope x N' ix:=by
 obtain ⟨a,b,c,d,e,f,g⟩:=h1
 refine ⟨hk,a,b,c,fun y hy h=>?_,e,f,h3,fun i hi=>?_,g⟩
 ·exact List.map_inj_left.1 h2 _ (d y hy h)
 ·exact of_decide_eq_true (List.all_eq_true.1 h4 i hi)
theorem rd0 (d:D) (ρ:Ev):rdV (some (.val d)::ρ) 0=.ok d:=rfl
theorem rd1 (a0:Option Sl) (d:D) (ρ:Ev):rdV (a0::some (.val d)::ρ) 1=.ok d:=rfl
theorem rd2 (a0 a1:Option Sl) (d:D) (ρ:Ev):rdV (a0::a1::some (.val d)::ρ) 2=.ok d:=rfl
theorem rd3 (a0 a1 a2:Option Sl) (d:D) (ρ:Ev):rdV (a0::a1::a2::some (.val d)::ρ) 3=.ok d:=rfl
theorem rd4 (a0 a1 a2 a3:Option Sl) (d:D) (ρ:Ev):rdV (a0::a1::a2::a3::some (.val d)::ρ) 4=.ok d:=rfl
theorem rd5 (a0 a1 a2 a3 a4:Option Sl) (d:D) (ρ:Ev):rdV (a0::a1::a2::a3::a4::some (.val d)::ρ) 5=.ok d:=rfl
theorem rd6 (a0 a1 a2 a3 a4 a5:Option Sl) (d:D) (ρ:Ev):rdV (a0::a1::a2::a3::a4::a5::some (.val d)::ρ) 6=.ok d:=rfl
section
variable {f:List D->R D} {ga gc gd:Ev->R D}
theorem Cf:aK 1 f (aa ga fun _=>.ok []) ρ=ga ρ>>=fun x=>f [x]:=by
 unfold aK aa
 cases ga ρ <;> rfl
theorem wZ:aK 2 f (aa ga (aa gb fun _=>.ok [])) ρ=ga ρ>>=fun x=>gb ρ>>=fun y=>f [x,y]:=by
 unfold aK aa
 cases ga ρ <;> try rfl
 simp only [aa,R.ok_bind]
 cases gb ρ <;> rfl
theorem xc:aK 3 f (aa ga (aa gb (aa gc fun _=>.ok []))) ρ=ga ρ>>=fun x=>gb ρ>>=fun y=>gc ρ>>=fun z=>f [x,y,z]:=by
 unfold aK aa
 cases ga ρ <;> try rfl
 simp only [aa,R.ok_bind]
 cases gb ρ <;> try rfl
 simp only [R.ok_bind]
 cases gc ρ <;> rfl
end
noncomputable def At (N:List Str) (i:Nat) (x:Str):Prop:=N[i]?=some x
theorem at0 {l:List Str}:At (x::l) 0 x:=rfl
theorem at1 {l:List Str}:At (y0::x::l) 1 x:=rfl
theorem at2 {l:List Str}:At (y0::y1::x::l) 2 x:=rfl
theorem at3 {l:List Str} {y2:Str}:At (y0::y1::y2::x::l) 3 x:=rfl
theorem at4 {l:List Str} {y2 y3:Str}:At (y0::y1::y2::y3::x::l) 4 x:=rfl
theorem at5 {l:List Str} {y2 y3 y4:Str}:At (y0::y1::y2::y3::y4::x::l) 5 x:=rfl
theorem at6 {l:List Str} {y2 y3 y4 y5:Str}:At (y0::y1::y2::y3::y4::y5::x::l) 6 x:=rfl
theorem at7 {l:List Str} {y2 y3 y4 y5 y6:Str}:At (y0::y1::y2::y3::y4::y5::y6::x::l) 7 x:=rfl
theorem at9 {l:List Str} {y2 y3 y4 y5 y6 y7 y8:Str}:At (y0::y1::y2::y3::y4::y5::y6::y7::y8::x::l) 9 x:=rfl
section
variable {N:List Str}
theorem ae {w:World} {K:PySem.W.Frag} {mg:Str->Option Value} {base:Heap} {A:Around} {outer:List Env} {E:XK} (h:At N i x)
 (hv:Vis (gj CX P w K mg base N qual scope f cdv A outer s H E).env.scope x:=by first|exact Or.inl rfl|exact Or.inr (Or.inl rfl)|exact Or.inr (Or.inr rfl)) (hd:(x==("__debug__":Str))=false:=by decide)
 (hcd:(x==("__classdict__":Str))=false:=by decide):PF (gj CX P w K mg base N qual scope f cdv A outer s H E) (.Name x pos) (fun ρ=>rdV ρ i):=BZ i h hv hd hcd
theorem cU {s₂:Shared} {H₂:Hp} (h:At N i x)
 (hv:Vis (cH X N scope C s₂ H₂ fp).env.scope x:=by first|exact Or.inl rfl|exact Or.inr (Or.inl rfl)|exact Or.inr (Or.inr rfl)) (hd:(x==("__debug__":Str))=false:=by decide)
 (hcd:(x==("__classdict__":Str))=false:=by decide):PF (cH X N scope C s₂ H₂ fp) (.Name x pos) (fun ρ=>rdV ρ i):=BZ i h hv hd hcd
theorem cX {w:World} {K:PySem.W.Frag} {mg:Str->Option Value} {base:Heap} {A:Around} {outer:List Env} {E:XK} {e:Expr} {p:Pos} {ga:Ev->R D} (h:At N i x) (hN:N.Nodup)
 (he:PF (gj CX P w K mg base N qual scope f cdv A outer s H E) e ga) (hx:Loc (gj CX P w K mg base N qual scope f cdv A outer s H E).env.scope x:=by first|exact Or.inl rfl|exact Or.inr rfl)
 (hs:swapsWithSole [.Name x p] e pos.line (gj CX P w K mg base N qual scope f cdv A outer s H E).env=pure false:=by rfl) (hw:swappedStores [.Name x p] e (gj CX P w K mg base N qual scope f cdv A outer s H E).env=pure none:=by rfl)
 (hf:(gj CX P w K mg base N qual scope f cdv A outer s H E).fn x=true\/(gj CX P w K mg base N qual scope f cdv A outer s H E).env.scope.names.lookup x=some .local:=by first|exact .inl rfl|exact .inr rfl) :
  PSF (gj CX P w K mg base N qual scope f cdv A outer s H E) (.Assign [.Name x p] e pos) (fP i ga):=Ic i hN he h hx hs hw hf
end
theorem Er {ga:Ev->R D} (h:aa ga (fun _=>.ok []) ρ=.ok ds):ds.length<=1:=by
 unfold aa at h
 cases e:ga ρ with
 | ok x=>rw [e] at h;cases h;exact Nat.le_refl _
 | ex C=>rw [e] at h;cases h
 | no=>rw [e] at h;cases h
structure Ref (x:Str) (C:Addr) (mg:Str->Option Value) (base:Heap):Prop where
 ex:∃ bm B newId initId,OwnCls x C bm newId mg base/\ExcBaseFacts B newId initId bm
theorem oB {e:Expr} {ga:Ev->R D} {np cp:Pos} (r:Ref x C X.mg X.base) (hh:X.A.handled=none) (ha:PF X e ga) (hg:Gl X x:=by rfl)
 (hdb:(x==("__debug__":Str))=false:=by decide) (hs:starEach [e] X.env=(false,eval e X.env)::starEach [] X.env:=by rfl) :
  PSF X (.Raise (some (.Call (.Name x np) [e] [] cp)) none pos) (lv C (aa ga fun _=>.ok [])):=by
 obtain ⟨bm,B,newId,initId,Oc,FB⟩:=r.ex
 exact vW Oc FB hh hg (ac ha ad hs) hdb hs (fun ρ ds h=>Er h)
noncomputable def KP (i:Nat) (ga:Ev->R D):Ev->O:=fun ρ=>(ownAt ρ i).out ρ fun ds=>(ga ρ).out ρ fun d=>(asL d).out ρ fun es=>if ds.length+es.length<=sizeLine then .nx (ρ.set i (some (.own (ds++es)))) else .no
noncomputable def Hy (i:Nat) (ga:Ev->R D):Ev->O:=fun ρ=>(ownAt ρ i).out ρ fun ds=>(ga ρ).out ρ fun d=>if ds.length<sizeLine then .nx (ρ.set i (some (.own (ds++[d])))) else .no
noncomputable def IX (i j:Nat) (gl:Ev->R (List D)):Ev->O:=fun ρ=>(gl ρ).out ρ fun ds=>(nO [i,j] ds ρ).out ρ .nx
section
variable {di body:List Stmt} {e c o:Expr} {g:Ev->O} {ga:Ev->R D} {p p2:Pos}
theorem tf (i:Nat) {p ap cp:Pos} (he:PF X e ga) (hi:X.N[i]?=some x:=by rfl) (hv:Vis X.env.scope x:=by first|exact Or.inl rfl|exact Or.inr (Or.inl rfl))
 (hd:(x==("__debug__":Str))=false:=by decide) (hcd:(x==("__classdict__":Str))=false:=by decide) (hs1:starEach [e] X.env=(false,eval e X.env)::starEach [] X.env:=by rfl)
 (hbase:attributeBase (.Name x p) "append" X.env (eval (.Name x p) X.env)=eval (.Name x p) X.env:=by rfl)
 (hfew:((backTo cp (starEach [e] X.env)).all (fun x=>!x.1) && (backToKw cp (keywordEach [] X.env)).all (fun x=>x.1.isSome)
 && decide ([e].length+([]:List Keyword).length+(if ([]:List Keyword).isEmpty then 0 else 1)<30))=true:=by rfl)
 (hline:(ap.endLine==cp.line)=true:=by rfl)
 (hs:swapsWith (.Call (.Attribute (.Name x p) "append" ap) [e] [] cp) none pos.line X.env=pure false:=by rfl) :
  PSF X (.Expr (.Call (.Attribute (.Name x p) "append" ap) [e] [] cp) pos) (Hy i ga):=rg i he hi hv hd hcd hs1 hbase hfew hline hs
theorem IR (i j:Nat) {a b:Expr} {px py pt pt2:Pos} {k2:Nat} (hc:X.calm=true) (hN:X.N.Nodup) (ha:PFA X [a,b] gl) (hij:i≠j:=by decide) (hi:X.N[i]?=some x:=by rfl) (hj:X.N[j]?=some y:=by rfl)
 (hx:X.env.scope.names.lookup x=some .local:=by rfl) (hy:X.env.scope.names.lookup y=some .local:=by rfl)
 (hw:swappedStores [.Tuple [.Name x px,.Name y py] kt pt] (.Tuple [a,b] k2 pt2) X.env=pure (some [x,y]):=by rfl)
 (hs:swapsWithSole [.Tuple [.Name x px,.Name y py] kt pt] (.Tuple [a,b] k2 pt2) pos.line X.env=pure false:=by rfl) :
  PSF X (.Assign [.Tuple [.Name x px,.Name y py] kt pt] (.Tuple [a,b] k2 pt2) pos) (IX i j gl):=Bc i j hc hN ha hij hi hj hx hy hw hs
theorem Cj (h:PF X (.Name x pos) ga):PB X (.Name x pos) (aI jM ga):=wU h
theorem C7 {sts:List Stmt} (i:Nat) (h:oJ X sts g):oJ X sts (Ft i g):=yt i h
end
structure Errs (K:PySem.W.Frag) (mg:Str->Option Value) (rs:List Addr) (ts:List (Str×Addr)):Prop where
 na:∀ t∈ts,mg t.1=some (.ref t.2)
 ec:∀ r∈rs,ExcCls K r
 kit:∀ r∈rs,∀ t∈ts,PySem.W.kitOne K (.ref r) (.ref t.2)=some (r==t.2)
 ve:∀ r∈rs,PySem.W.kitOne K (.ref r) (.type "ValueError")=some true
 le:∃ L,mg "LineError"=some (.ref L)/\∀ r∈rs,PySem.W.exmOne K (.ref r) (.ref L)=some true
noncomputable def fl:Nat->D->Bool
 | 0,_=>false
 | n+1,.tup xs=>xs.all (fl n)
 | _+1,.lst _ _=>false
 | _+1,.exc _=>false
 | _+1,.dct _ _=>false
 | _+1,_=>true
theorem yF {K:PySem.W.Frag} {G G2:Hp} {n:Nat} (ih:∀ v d,fl n d=true->Rep K G v d->Rep K G2 v d):∀ {vs:List V} {ds:List D},ds.all (fl n)=true->Reps K G vs ds->Reps K G2 vs ds
 | _,_,_,.nil=>.nil
 | _,_,h,.cons r t=>by
  rw [List.all_cons,Bool.and_eq_true] at h
  exact .cons (ih _ _ h.1 r) (yF ih h.2 t)
theorem yU {K:PySem.W.Frag} {G G2:Hp} (h:∀ a o,G a=some o->(∀ vs,o≠HO.lst vs)->G2 a=some o):∀ (n:Nat) (v:V) (d:D),fl n d=true->Rep K G v d->Rep K G2 v d
 | 0,_,_,hf,_=>by simp [fl] at hf
 | n+1,v,d,hf,r=>by
  cases r with
  | non=>exact .non
  | bl b=>exact .bl b
  | int i=>exact .int i
  | str x hx=>exact .str x hx
  | tup hs t=>
   refine .tup ?_ (yF (fun v d=>yU h n v d) hf t)
   rcases hs with (q|⟨o,q⟩)|q
   ·exact .inl (.inl (h _ _ q fun vs z=>by cases z))
   ·exact .inl (.inr ⟨o,h _ _ q fun vs z=>by cases z⟩)
   ·exact .inr q
  | lst hs t=>simp [fl] at hf
  | fls hs t=>simp [fl] at hf
  | exc hs=>simp [fl] at hf
  | dct _ _ _=>simp [fl] at hf
theorem StR.peek {K:PySem.W.Frag} {H₀:Hp} (s:StR K G₀ H₀ G H σ ρ) (i:Nat):∃ G1,StE K G1 H σ (L2.frz i ρ)/\
  ∀ G' H',Up G1 H G' H'->∃ G2,Up G H G2 H'/\∀ a o,G' a=some o->(∀ vs,o≠HO.lst vs)->G2 a=some o:=by
 obtain ⟨G1,sr,e|⟨l,vs,hl,e⟩⟩:=s.frzTo i
 ·subst e
  exact ⟨G1,sr.e,fun G' H' u=>⟨G',u,fun a o q _=>q⟩⟩
 ·subst e
  refine ⟨_,sr.e,fun G' H' u=>⟨fun a=>if a=l then none else G' a,⟨fun a o q=>?_,fun a o q=>?_,u.hh,fun a o q=>?_⟩,fun a o q hq=>?_⟩⟩
  ·have q:(if a=l then none else G' a)=some o:=q
   split at q
   ·cases q
   ·exact u.sub a o q
  ·have ne:a≠l:=fun z=>by subst z;rw [hl] at q;cases q
   show (if a=l then none else G' a)=some o
   rw [if_neg ne]
   exact u.gg a o (by rw [aC ne];exact q)
  ·have q:(if a=l then none else G' a)=some o:=q
   split at q
   ·cases q
   ·rename_i ne
    rcases u.fr a o q with z|z
    ·rw [aC ne] at z;exact .inl z
    ·exact .inr z
  ·have ne:a≠l:=fun z=>by
    subst z
    have:=u.gg a _ aM
    rw [q] at this
    cases this
    exact hq vs rfl
   show (if a=l then none else G' a)=some o
   rw [if_neg ne];exact q
section
variable {di body a b:List Stmt} {e c tg:Expr} {g g1 g2:Ev->O} {ga:Ev->R D} {gt:Ev->R Bool}
noncomputable def LG (i:Nat) (gt:Ev->R Bool) (g1 g2:Ev->O):Ev->O:=fun ρ=>(fK (gt (frz i ρ))).out ρ fun k=>if k=true then g1 ρ else g2 ρ
noncomputable def Dt (j i:Nat) (ga:Ev->R D):Ev->O:=fun ρ=>(fK (ga (frz j ρ))).out ρ fun d=>if fl 10 d=true then .nx (ρ.set i (some (.val d))) else .no
theorem Gf (j i:Nat) {p:Pos} (hN:X.N.Nodup) (he:PF X e ga) (hi:X.N[i]?=some x:=by rfl) (hx:Loc X.env.scope x:=by first|exact Or.inl rfl|exact Or.inr rfl)
 (hs:swapsWithSole [.Name x p] e pos.line X.env=pure false:=by rfl) (hw:swappedStores [.Name x p] e X.env=pure none:=by rfl) (hf:X.fn x=true\/X.env.scope.names.lookup x=some .local:=by first|exact .inl rfl|exact .inr rfl) :
  PSF X (.Assign [.Name x p] e pos) (Dt j i ga):=fun G₀ H₀ pins s σ H D I h=>by
 refine jc he (gy (i:=i) hN hi hx hf) hs hw rfl pins s σ H D I ?_
 obtain ⟨G,ρ,sr,h⟩:=h
 have h:jj X G₀ H₀ D ((fK (ga (frz j ρ))).out ρ fun d=>if fl 10 d=true then .nx (ρ.set i (some (.val d))) else .no):=h
 obtain ⟨G1,st1,pk⟩:=sr.peek j
 refine ⟨G1,_,st1,?_⟩
 cases q:ga (frz j ρ) with
 | ok d=>
  rw [q] at h
  intro v G' H' u r
  obtain ⟨G2,u2,tr⟩:=pk G' H' u
  have h:jj X G₀ H₀ D (if fl 10 d=true then .nx (ρ.set i (some (.val d))) else .no):=h
  by_cases hfl:fl 10 d=true
  ·rw [if_pos hfl] at h
   exact h _ G2 _ ((sr.ups u2).set (yU tr 10 v d hfl r) i)
  ·rw [if_neg hfl] at h;exact h.elim
 | _=>rw [q] at h;exact h.elim
noncomputable def HX (j i:Nat) (ga:Ev->R D):Ev->O:=fun ρ=>(ownAt ρ i).out ρ fun ds=>(fK (ga (frz j ρ))).out ρ fun d=>if ds.length<sizeLine/\fl 10 d=true then .nx (ρ.set i (some (.own (ds++[d])))) else .no
noncomputable def CN (i:Nat) (gk ga:Ev->R D):Ev->O:=fun ρ=>(ownAt ρ i).out ρ fun ds=>(fK (ga (frz i ρ))).out ρ fun d=>(fK (gk (frz i ρ)>>=asI)).out ρ fun k=>match ixN ds.length k with
 | some n=>if fl 10 d=true then .nx (ρ.set i (some (.own (ds.set n d)))) else .no
 | none=>.no
theorem E1 (i:Nat) {p tp:Pos} {ix:Expr} {gk:Ev->R D} (he:PF X e ga) (hk:PF X ix gk) (hi:X.N[i]?=some x:=by rfl) (hv:Vis X.env.scope x:=by first|exact Or.inl rfl|exact Or.inr (Or.inl rfl))
 (hd:(x==("__debug__":Str))=false:=by decide) (hcd:(x==("__classdict__":Str))=false:=by decide)
 (hs:swapsWithSole [.Subscript (.Name x p) ix tp] e pos.line X.env=pure false:=by rfl) (hw:swappedStores [.Subscript (.Name x p) ix tp] e X.env=pure none:=by rfl)
 (h1':(assignEach [.Subscript (.Name x p) ix tp] X.env).map (·.2)=[assign (.Subscript (.Name x p) ix tp) X.env]:=by rfl)
 (ha:∀ v,assign (.Subscript (.Name x p) ix tp) X.env v=(do
 let ov <- holding [v] (eval (.Name x p) X.env)
 let iv <- holding [v,ov] (eval ix X.env)
 standAt tp
 holding [v,ov,iv] (setItem ov iv v)
 release [v,ov,iv] []):=by intro _;rfl) :
  PSF X (.Assign [.Subscript (.Name x p) ix tp] e pos) (CN i gk ga):=fun G₀ H₀ pins s σ H D I h=>by
 refine jc he (B1 (dh hi hv hd hcd) hk A0 ha) hs hw h1' pins s σ H D I ?_
 obtain ⟨G,ρ,sr,h⟩:=h
 have h:jj X G₀ H₀ D ((ownAt ρ i).out ρ fun ds=>(fK (ga (frz i ρ))).out ρ fun d=>(fK (gk (frz i ρ)>>=asI)).out ρ fun k=>match ixN ds.length k with
  | some n=>if fl 10 d=true then .nx (ρ.set i (some (.own (ds.set n d)))) else .no
  | none=>.no):=h
 obtain ⟨ds,e1,h⟩:=ownAt.ok h
 obtain ⟨l,vs,h1,h2,h3,h4,h5⟩:=sr.own i ds e1
 obtain ⟨G1,st1,pk⟩:=sr.peek i
 refine ⟨G1,_,st1,?_⟩
 cases q:ga (frz i ρ) with
 | ok d=>
  rw [q] at h
  intro v G' H' u r
  have h:jj X G₀ H₀ D ((fK (gk (frz i ρ)>>=asI)).out ρ fun k=>match ixN ds.length k with
   | some n=>if fl 10 d=true then .nx (ρ.set i (some (.own (ds.set n d)))) else .no
   | none=>.no):=h
  show Jz _ _ _ v σ H' _
  refine ⟨.ref l,h1,G',_,st1.up u,?_⟩
  cases q2:gk (frz i ρ) with
  | ok kd=>
   rw [q2] at h
   intro kv G'' H'' u' rk
   cases rk with
   | int k=>
    have h:jj X G₀ H₀ D (match ixN ds.length k with
     | some n=>if fl 10 d=true then .nx (ρ.set i (some (.own (ds.set n d)))) else .no
     | none=>.no):=h
    obtain ⟨G2,u2,tr⟩:=pk G'' H'' (u.trans u')
    cases q3:ixN ds.length k with
    | none=>rw [q3] at h;exact h.elim
    | some n=>
     rw [q3] at h
     have h:jj X G₀ H₀ D (if fl 10 d=true then .nx (ρ.set i (some (.own (ds.set n d)))) else .no):=h
     by_cases hz:fl 10 d=true
     ·rw [if_pos hz] at h
      refine ⟨l,vs,k,n,rfl,rfl,(u.trans u').hh _ _ h2,by rw [h5.length];exact q3,h _ G2 _ ?_⟩
      exact (sr.ups u2).mut e1 h1 (.set (yU tr 10 v d hz (r.mono u'.gg)) n (h5.mono u2.gg))
     ·rw [if_neg hz] at h;exact h.elim
   | _=>exact h.elim
  | _=>rw [q2] at h;exact h.elim
 | _=>rw [q] at h;exact h.elim
noncomputable def KU:D->R (List D)
 | .lst _ xs=>.ok xs
 | .tup xs=>.ok xs
 | _=>.no
noncomputable def DI:List D->R (List D)
 | [d]=>KU d
 | _=>.no
noncomputable def Dw (gl:Ev->R (List D)):Ev->R (List D):=fun ρ=>gl ρ>>=DI
theorem vw {p:Pos} (hg:Gl X "list") (hm:X.mg "list"=none) (ha:PFA X [e] gl) (he:starEach [e] X.env=(false,eval e X.env)::starEach [] X.env:=by rfl):PFL X (.Call (.Name "list" p) [e] [] pos) (Dw gl):=by
 intro pins s σ H Q I hq
 refine lc qe hg hm PyProof.Rows.Boot.«list» ha (by decide) (by decide) he rfl pins s σ H Q I ?_
 obtain ⟨G,ρ,st,hq⟩:=hq
 have hq:(gl ρ>>=DI).post (zm X.K G H Q) (Exx X σ G H):=hq
 refine ⟨G,ρ,st,?_⟩
 cases q:gl ρ with
 | ok ds=>
  rw [q] at hq
  intro vs G' H' u r
  have hq:(DI ds).post (zm X.K G H Q) (Exx X σ G H):=hq
  unfold DI at hq
  split at hq
  ·obtain ⟨v,rfl,rv⟩:=r.one
   cases rv with
   | lst hs t=>exact ⟨_,_,rfl,.inl (.of (u.sub _ _ hs)),fun l hl=>hq l _ G' H' u hl t⟩
   | fls hs t=>exact ⟨_,_,rfl,.inl (hs.mono u.sub),fun l hl=>hq l _ G' H' u hl t⟩
   | tup hs t=>exact ⟨_,_,rfl,.inr (hs.mono u.sub),fun l hl=>hq l _ G' H' u hl t⟩
   | _=>exact hq.elim
  ·exact hq.elim
 | ex C=>rw [q] at hq;exact hq
 | no=>rw [q] at hq;exact hq
theorem yA {a b:Expr} {p:Pos} (hg:Gl X "range") (hm:X.mg "range"=none) (ha:PFA X [a,b] gl) (hs:starEach [a,b] X.env=[(false,eval a X.env),(false,eval b X.env)]:=by rfl) (hs2:starEach [b] X.env=[(false,eval b X.env)]:=by rfl):PIF X tg (.Call (.Name "range" p) [a,b] [] pos) (aI iu gl):=vH hg hm ha hs hs2
end
end L2
namespace L2
open PySem PySem.Spec PyProof.Rows PySem.W
noncomputable def oK:List D->Option (List Int)
 | []=>some []
 | .int i::ds=>(oK ds).map (i::·)
 | _=>none
theorem Reps.nums {K:PySem.W.Frag}:∀ {vs:List V} {ds:List D} {ns:List Int},Reps K G vs ds->oK ds=some ns->vs=ns.map V.int
 | _,_,_,.nil,h=>by cases h;rfl
 | _,_,ns,.cons (d:=d) r t,h=>by
  cases d <;> first|(cases h;done)|skip
  rename_i x
  rename_i ds'
  cases q:oK ds' with
  | none=>simp [oK,q] at h
  | some zs=>
   simp [oK,q] at h
   subst h
   rw [Reps.nums t q,r.int_inv];rfl
section
theorem tV {e:Expr} {ga:Ev->R D} {p p2:Pos} (hm:X.mg "isinstance"=none) (ha:PF X e ga) (hm2:X.mg "list"=none) (hg2:Gl X "list":=by rfl) (hg:Gl X "isinstance":=by rfl) (hs1:starEach [e,.Name "list" p2] X.env=(false,eval e X.env)::starEach [.Name "list" p2] X.env:=by rfl):PF X (.Call (.Name "isinstance" p) [e,.Name "list" p2] [] pos) (aI (iJ (·=="list")) ga):=ye hm ha hm2 hg2 hg hs1
end
end L2
namespace L2
open PySem PySem.Spec PyProof.Rows
open Sem (wp)
open AutoSeq1 (wpAny_loadPart')
theorem FM:isSubtype (.type "enumerate") (.type "enumerate")=pure true:=PySem.sub_enumerate
theorem Ep (l:Addr) (its:Array Value) (n:Nat) (dct:Option Addr) (sl:Array (Option Value)) :
  Meets (Builtin.«enumerate.__new__» ⟨[.type "enumerate",.ref l],[]⟩) (fun _ Rr s=>s.heap.get? l=some { cls:=.type "tuple",dict:=dct,data:=.seq its n,slots:=sl }/\
   Rr (.ok (.ret (.ref (s.heap.push { cls:=.type "tuple_iterator",data:=.fields #[.ref l,.int 0 0] }).objs.size)))
    { s with heap:=(s.heap.push { cls:=.type "tuple_iterator",data:=.fields #[.ref l,.int 0 0] }).push { cls:=.type "enumerate",data:=.fields #[.none,.bool false,.ref s.heap.objs.size,rawInt 0,.none,.none] } }):=
 .of_wp fun prog w A Rr s h=>by
  obtain ⟨hp,g,d,tk,os⟩:=s;obtain ⟨hl,h⟩:=h
  have hsub:=FM
  have hT:Heap.IsTuple (Shared.heap ⟨hp,g,d,tk,os⟩) l its:=⟨_,hl,rfl,n,rfl⟩
  wp_walk using wpAny_loadPart' hl
  refine wpAny_stack_any fun st=>wpAny_pure ?_
  split
  ·rename_i c _ _ _ _ _
   cases (c==Value.type "enumerate") <;> (wp_walk using wpAny_loadPart' hl,wpAny_pyIter_tuple hT;exact ⟨_,rfl,h⟩)
  ·wp_walk using wpAny_loadPart' hl,wpAny_pyIter_tuple hT
   exact ⟨_,rfl,h⟩
section
variable {prog:Program} {w:World} {A:Around}
theorem Eg {itT:String} {l:Addr} {c:Int} {Q:Value->Shared->Prop}
 (h:∀ h',IsEnum h' (s.heap.objs.size+1) s.heap.objs.size c .none->h'.get? s.heap.objs.size=some { cls:=.type itT,data:=.fields #[.ref l,.int 0 0] }->h'.objs.size=s.heap.objs.size+2->
 (∀ b o,s.heap.get? b=some o->h'.get? b=some o)->Q (.ref (s.heap.objs.size+1)) { s with heap:=h' }) :
  wants (fun obj s₁=>s₁.TypeIs obj "enumerate"/\Q obj s₁) E (.ok (.ret (.ref (s.heap.push { cls:=.type itT,data:=.fields #[.ref l,.int 0 0] }).objs.size)))
   { s with heap:=(s.heap.push { cls:=.type itT,data:=.fields #[.ref l,.int 0 0] }).push { cls:=.type "enumerate",data:=.fields #[.none,.bool false,.ref s.heap.objs.size,rawInt c,.none,.none] } }:=by
 have hz:(s.heap.push { cls:=.type itT,data:=.fields #[.ref l,.int 0 0] }).objs.size=s.heap.objs.size+1:=Heap.size_push ..
 have he:IsEnum ((s.heap.push { cls:=.type itT,data:=.fields #[.ref l,.int 0 0] }).push { cls:=.type "enumerate",data:=.fields #[.none,.bool false,.ref s.heap.objs.size,rawInt c,.none,.none] }) (s.heap.objs.size+1) s.heap.objs.size c .none:=by
  have q:=Heap.get?_push_size (s.heap.push { cls:=.type itT,data:=.fields #[.ref l,.int 0 0] }) (o:={ cls:=.type "enumerate",data:=.fields #[.none,.bool false,.ref s.heap.objs.size,rawInt c,.none,.none] }) rfl
  rw [hz] at q
  exact q
 show _/\_
 rw [hz]
 exact ⟨⟨_,he,rfl⟩,h _ he (Heap.get?_push_of_some _ (Heap.get?_push_size _ rfl)) (by rw [Heap.size_push,hz]) fun b o x=>Heap.get?_push_of_some _ (Heap.get?_push_of_some _ x)⟩
theorem A9 {l:Addr} {its:Array Value} {n:Nat} {dct:Option Addr} {sl:Array (Option Value)} {Q:Value->Shared->Prop}
 (hl:s.heap.get? l=some { cls:=.type "tuple",dict:=dct,data:=.seq its n,slots:=sl })
 (h:∀ h',IsEnum h' (s.heap.objs.size+1) s.heap.objs.size 0 .none->h'.get? s.heap.objs.size=some { cls:=.type "tuple_iterator",data:=.fields #[.ref l,.int 0 0] }->h'.objs.size=s.heap.objs.size+2->
 (∀ b o,s.heap.get? b=some o->h'.get? b=some o)->Q (.ref (s.heap.objs.size+1)) { s with heap:=h' }) :
  wpAny (model prog w) A (call (.type "enumerate") [.ref l]) Q E s:=
 callType_new F.called_enumerate (by decide) (F.typeCall_enumerate_1 _) (F.newCall_enumerate_1 _) (fun obj=>F.args_object_init_2 obj _) F.entry_enumerate_new (Ep l its n dct sl) ⟨hl,Eg h⟩
theorem Dz {t:Addr} {its:Array Value} {x:Value} {Q:Value->Shared->Prop} (hit:s.heap.IsTupleIter it t i) (ht:s.heap.IsTuple t its) (hx:its[i]?=some x)
 (hQ:∀ h',h'.IsTupleIter it t (i+1)->Heap.SameBut it s.heap h'->Q x { s with heap:=h' }):wpAny (model prog w) A (Builtin.SmallTypes.nextOf (.ref it)) Q E s:=by
 obtain ⟨ob,h1,h2,h3⟩:=id hit
 obtain ⟨ot,k1,_,m,k2⟩:=ht
 unfold Builtin.SmallTypes.nextOf
 refine wpAny_bind (wpAny_callSpecial?_slot (name:=Str.ofString "__next__") hit.typeIs F.slot_tuple_iterator_next (wpAny_call_entry F.slot_tuple_iterator_next hit.typeIs F.entry_tuple_iterator_next ?_ (F.args_tuple_iterator_next_1 _)))
 refine wpAny_bind (m:=field (.ref it) 0) (wpAny_field h1 h3 (x:=.ref t) rfl ?_)
 show wpAny _ _ (if (Value.ref t==Value.none)=true then _ else _) _ _ s
 rw [if_neg (by exact Bool.false_ne_true)]
 refine wpAny_bind (m:=field (.ref it) 1) (wpAny_field h1 h3 (x:=.int i 0) rfl (wpAny_bind (m:=seqItems? (.ref t)) (wpAny_seqItems k1 k2 ?_)))
 simp only [Int.toNat_natCast,hx]
 refine wpAny_bind (wpAny_setField h1 h3 (by simp) (wpAny_pure ⟨x,rfl,wpAny_pure (hQ _ ⟨_,Heap.get?_update_self _ h1 (Obj.isFreed_of_fields (Obj.data_mapFields h3 _)),(Obj.cls_mapFields ..).trans h2,?_⟩ (Heap.SameBut.update ..))⟩))
 rw [Obj.data_mapFields h3];simp [rawInt]
theorem Cc {t:Addr} {its:Array Value} {Q:Value->Shared->Prop} (hh:A.handled=none) (hit:s.heap.IsTupleIter it t i) (ht:s.heap.IsTuple t its) (hx:its[i]?=none)
 (hE:∀ h' e,Heap.ExtBut it s.heap h'->(∃ o,h'.get? e=some o/\o.cls=.type "StopIteration")->E (.ref e) { s with heap:=h' }):wpAny (model prog w) A (Builtin.SmallTypes.nextOf (.ref it)) Q E s:=by
 obtain ⟨ob,h1,h2,h3⟩:=id hit
 obtain ⟨ot,k1,_,m,k2⟩:=ht
 unfold Builtin.SmallTypes.nextOf
 refine wpAny_bind (wpAny_callSpecial?_slot (name:=Str.ofString "__next__") hit.typeIs F.slot_tuple_iterator_next (wpAny_call_entry F.slot_tuple_iterator_next hit.typeIs F.entry_tuple_iterator_next ?_ (F.args_tuple_iterator_next_1 _)))
 refine wpAny_bind (m:=field (.ref it) 0) (wpAny_field h1 h3 (x:=.ref t) rfl ?_)
 show wpAny _ _ (if (Value.ref t==Value.none)=true then _ else _) _ _ s
 rw [if_neg (by exact Bool.false_ne_true)]
 refine wpAny_bind (m:=field (.ref it) 1) (wpAny_field h1 h3 (x:=.int i 0) rfl (wpAny_bind (m:=seqItems? (.ref t)) (wpAny_seqItems k1 k2 ?_)))
 simp only [Int.toNat_natCast,hx]
 refine wpAny_bind (wpAny_rule (wpAny_bind (wpAny_setField h1 h3 (by simp) (wpAny_bind (m:=newExc (.type "StopIteration") []) ?_))))
 simp only [newExc,newTuple]
 refine wpAny_bind (wpAny_newObj_type (wpAny_bind (m:=firstArgMember _ _) (wpAny_of_eq (a:=Value.none) (by first|rfl|(simp only [firstArgMember];rfl)) (wpAny_newObj_type ?_ (by size_fits)))) (by size_fits))
 simp only [raiseNew]
 refine wpAny_bind (wpAny_handled ?_)
 first|rw [show A.in1.handled=none from hh]|rw [hh]
 exact wpAny_bind (wpAny_pure (wpAny_throw (hE _ _ (((Heap.SameBut.update ..).extBut.push _).push _) ⟨_,Heap.get?_push_size _ rfl,rfl⟩)))
end
theorem EN {prog:Program} {w:World} {A:Around} (hh:A.handled=none) (it l:Addr) (hne:l≠it) (its:Array Value) (c:Nat) :
  Draws prog w A it [it,l] (c+its.size) (fun i v=>∃ k,i=c+k/\its[k]?=some v) (fun i h=>∃ k,i=c+k/\h.IsTupleIter it l k/\h.IsTuple l its) where
 live:=fun _ _ ⟨_,_,st,_⟩=>let ⟨o,ho,_⟩:=st;⟨o,ho⟩
 frame:=fun _ _ _ ⟨k,e,st,t⟩ hk=>⟨k,e,st.at fun o e=>hk it (by simp) o e,let ⟨o,ho,r⟩:=t;⟨o,hk l (by simp) o ho,r⟩⟩
 item:=fun i s Q E hi ⟨k,e,st,t⟩ hQ=>by
  have hk:k<its.size:=by omega
  refine Dz st t (x:=its[k]) (by simp [hk]) fun h' st' sb=>hQ _ h' s.toks ⟨k,e,by simp [hk]⟩ ⟨k+1,by omega,st',?_⟩ sb
  obtain ⟨o,ho,r⟩:=t
  exact ⟨o,(sb.2 l hne).trans ho,r⟩
 done:=fun s Q E ⟨k,e,st,t⟩ hE=>Cc hh st t (Array.getElem?_eq_none (by omega)) hE
theorem Gu {prog:Program} {w:World} {A:Around} (hh:A.handled=none) (it l:Addr) (hne:l≠it) (its:Array Value) (c:Nat) :
  Draws prog w A it [it,l] (c+its.size) (fun i v=>∃ k,i=c+k/\its[k]?=some v) (fun i h=>∃ k,i=c+k/\h.IsListIter it l k/\h.IsList l its) where
 live:=fun _ _ ⟨_,_,st,_⟩=>let ⟨o,ho,_⟩:=st;⟨o,ho⟩
 frame:=fun _ _ _ ⟨k,e,st,t⟩ hk=>⟨k,e,st.at fun o e=>hk it (by simp) o e,t.at fun o e=>hk l (by simp) o e⟩
 item:=fun i s Q E hi ⟨k,e,st,t⟩ hQ=>by
  have hk:k<its.size:=by omega
  exact wpAny_nextOf_list_item st t (x:=its[k]) (by simp [hk]) fun h' st' sb=>hQ _ h' s.toks ⟨k,e,by simp [hk]⟩ ⟨k+1,by omega,st',t.extBut sb.extBut hne⟩ sb
 done:=fun s Q E ⟨k,e,st,t⟩ hE=>wpAny_nextOf_list_end hh st t (Array.getElem?_eq_none (by omega)) hE
theorem Inv.turned2 {σ:List (Option V)} {t':Nat} {e:Addr} (I:Inv X pins σ H s) (k:∀ b o,b≠it->b≠e->s.heap.get? b=some o->h'.get? b=some o) (f1:mE X pins H it) (f2:mE X pins H e) :
  Inv X pins σ H { s with heap:=h',toks:=t' }:=by
 obtain ⟨a0,a1,a2,a3,a4,a5⟩:=f1
 obtain ⟨b0,b1,b2,b3,b4,b5⟩:=f2
 have n1:∀ b u,H b=some u->b≠it:=fun b u q z=>by rw [z,a0] at q;cases q
 have n2:∀ b u,H b=some u->b≠e:=fun b u q z=>by rw [z,b0] at q;cases q
 have kk:∀ b o,b ∉ [it,e]->s.heap.get? b=some o->h'.get? b=some o:=fun b o hb q=>k b o (fun z=>hb (by simp [z])) (fun z=>hb (by simp [z])) q
 refine I.step (g':=s.gens) (d':=s.drawn) (ch:=[it,e]) (fun b hb=>?_) (fun b o _ _ hc q _=>kk b o hc q) (fun b o _ _ hc q _=>⟨o.slots,kk b o hc q⟩) (fun _ _ _ _ n=>n) (fun b o hc q=>⟨o,kk b o hc q⟩) (fun _ _ q=>q) (fun _ _ _ q=>q) (fun b ps q=>⟨#[],by rw [q];simp⟩) (fun m hm=>?_) (fun b u q=>?_) I.bare
 ·simp only [List.mem_cons,List.mem_nil_iff,or_false] at hb
  rcases hb with rfl|rfl
  ·exact ⟨a3,a1,a4,a5⟩
  ·exact ⟨b3,b1,b4,b5⟩
 ·obtain ⟨o,es,ep,ho,r⟩:=hm
  exact ⟨o,es,ep,k _ o (Ne.symm a1) (Ne.symm b1) ho,r⟩
 ·refine (I.hok b u q).stay (fun c v hc q'=>k c v ?_ ?_ q') (fun _ q'=>q') fun _ _ q'=>q'
  ·rcases hc with z|z
   ·rw [z];exact n1 b u q
   ·exact n1 c _ z
  ·rcases hc with z|z
   ·rw [z];exact n2 b u q
   ·exact n2 c _ z
noncomputable def Ite (sq:Hp->List V->Prop) (c:Nat):It:=⟨fun i H=>∃ xs x,sq H xs/\xs[i]?=some x,
 fun i H v H'=>∃ p x,v=.ref p/\H p=none/\H'=upd H p (.tup [.int ((c+i:Nat):Int),x])/\∀ xs,sq H xs->xs[i]?=some x,fun i H=>∃ xs,sq H xs/\xs.length<=i⟩
section
variable {w:World} {K:PySem.W.Frag} {tp:Pos}
structure Inner (P:Program) (w:World) (K:PySem.W.Frag) (sq:Hp->List V->Prop) (a it:Addr) (iter:Nat->Heap->Prop):Prop where
 obj:∀ i h,iter i h->∃ o,h.get? it=some o/\∀ v,o.data ≠ .cell v
 at_:∀ i h h',iter i h->(∀ o,h.get? it=some o->h'.get? it=some o)->iter i h'
 inj:∀ (X:Cx),X.K=K->∀ (pins:List (Addr×Obj)) (σ:St) (H:Hp) (s:Shared) xs ys,Inv X pins σ H s->sq H xs->sq H ys->xs=ys
 dr:∀ (X:Cx),X.prog=P->X.w=w->X.K=K->X.calm=true->∀ (pins:List (Addr×Obj)) (σ:St) (H:Hp) (s:Shared) (xs:List V) (c:Nat),Inv X pins σ H s->sq H xs->(∀ i,iter i s.heap->a≠it)->
  ∃ its:List Value,Vals xs its/\xs.length<=sizeLine/\∃ (Pd:Nat->Value->Prop) (St:Nat->Heap->Prop),Draws P w X.A.in1 it [it,a] (c+its.length) Pd St/\(∀ k v,Pd (c+k) v->its[k]?=some v)/\
   (∀ k h,iter k h->(∀ o,s.heap.get? a=some o->h.get? a=some o)->a≠it->St (c+k) h)/\∀ k h,St (c+k) h->iter k h
 fin:∀ (X:Cx),X.prog=P->X.w=w->X.K=K->X.calm=true->∀ (pins:List (Addr×Obj)) (σ:St) (H:Hp) (s:Shared) (xs:List V) (i:Nat) (Q:Value->Shared->Prop) (E:Value->Shared->Prop),Inv X pins σ H s->sq H xs->xs.length<=i->iter i s.heap->
  (∀ h' x,Heap.ExtBut it s.heap h'->(∃ o,h'.get? x=some o/\o.cls=.type "StopIteration")->E (.ref x) { s with heap:=h' })->wpAny (model P w) X.A.in1 (Builtin.SmallTypes.nextOf (.ref it)) Q E s
theorem xy {ob o:Obj} (hb:b<h.objs.size) (q:(h.push ob).get? b=some o):h.get? b=some o:=by
 unfold Heap.get? Heap.push at *
 simpa [Array.getElem?_push,Nat.ne_of_lt hb] using q
theorem Gh {prog:Program} {A:Around} {e:Addr} {c:Int} {old:Value} {Q:Option Value->Shared->Prop} (he:IsEnum s.heap e it c old)
 (hn:∀ (Q':Value->Shared->Prop) (E':Value->Shared->Prop),(∀ h' x,Heap.ExtBut it s.heap h'->(∃ o,h'.get? x=some o/\o.cls=.type "StopIteration")->E' (.ref x) { s with heap:=h' })->wpAny (model prog w) A.in1 (Builtin.SmallTypes.nextOf (.ref it)) Q' E' s)
 (hQ:∀ h',Heap.ExtBut it s.heap h'->Q none { s with heap:=h' }):wpAny (model prog w) A (pyNext (.ref e)) Q E s:=by
 have ht:s.TypeIs (.ref e) "enumerate":=⟨_,he,rfl⟩
 unfold pyNext
 refine wpAny_bind (wpAny_attempt (wpAny_callSpecial?_slot (name:=Str.ofString "__next__") ht F.slot_enumerate_next (wpAny_call_entry F.slot_enumerate_next ht F.entry_enumerate_next ?_ (F.args_enumerate_next_1 _))))
 refine wpAny_bind (m:=field (.ref e) 2) (wpAny_field he rfl (x:=.ref it) rfl (wpAny_bind (hn _ _ fun h' x hb hx=>?_)))
 obtain ⟨o,ho,hc⟩:=hx
 exact wpAny_bind (wpAny_isInstance (T:="StopIteration") (b:=true) ⟨o,ho,hc⟩ isSubtype_stop (wpAny_pure (hQ _ hb)))
theorem yL {e:Addr} {iter:Nat->Heap->Prop} (N:Inner P w K sq a it iter) (c:Nat) (hei:e≠it) (hea:e≠a) (hai:a≠it) :
  Turn P w K (.Tuple elts kt tp) (Ite sq c) [e,it] e (fun i h=>(∃ old,IsEnum h e it ((c+i:Nat):Int) old)/\iter i h) where
 mem:=by simp
 obj:=fun i h st b hb=>by
  simp only [List.mem_cons,List.mem_nil_iff,or_false] at hb
  rcases hb with rfl|rfl
  ·obtain ⟨old,q⟩:=st.1
   exact ⟨_,q,fun v z=>by cases z⟩
  ·exact N.obj i h st.2
 keep:=fun i h h' st k=>⟨st.1.imp fun old q=>k e (by simp) _ q,N.at_ i h h' st.2 fun o q=>k it (by simp) o q⟩
 item:=by
  intro X hP hw hK hc i pins s σ H E I hf st hg
  obtain ⟨xs,x,hq,hx⟩:=hg
  obtain ⟨⟨old,he⟩,hi⟩:=st
  obtain ⟨its,rv,hz,Pd,St,Dr,p1,p2,p3⟩:=N.dr X hP hw hK hc pins σ H s xs c I hq fun _ _=>hai
  obtain ⟨u,hu,ru⟩:=rv.get hx
  have hil:i<its.length:=(List.getElem?_eq_some_iff.mp hu).1
  have fe:=hf e (by simp)
  have fi:=hf it (by simp)
  subst hP hw
  refine wpAny_pyNext_enum_itemD Dr he (p2 i _ hi (fun _ q=>q) hai) (by omega) hei (by simp only [List.mem_cons,List.mem_nil_iff,or_false,not_or];exact ⟨hei,hea⟩) fun y h1 tk hy ho hs1 ht hsz hk=>?_
  have ey:y=u:=by
   have q:=p1 i y hy
   rw [hu] at q
   exact (Option.some.inj q).symm
  subst ey
  refine ⟨_,rfl,wpAny_letOwnedTupleGo_enum ho fun h2 he2 sb=>?_⟩
  have helt:e<s.heap.objs.size:=Heap.lt_size he
  have hpe:s.heap.objs.size≠e:=Nat.ne_of_gt helt
  obtain ⟨oi,hoi,_⟩:=N.obj i _ hi
  have hpi:s.heap.objs.size≠it:=Nat.ne_of_gt (Heap.lt_size hoi)
  have hp:H s.heap.objs.size=none:=I.hok.fresh (Nat.le_refl _)
  have Ia:Inv X pins σ (upd H s.heap.objs.size (.tup [.int ((c+i:Nat):Int),x])) { s with heap:=s.heap.push { cls:=.type "tuple",data:=.seq #[.int ((c+i:Nat):Int) tk,y] } }:=by
   refine I.laid (t':=s.toks) (fun b o q=>Heap.get?_push_of_some _ q) (Nat.le_refl _) ?_
   exact ⟨by show 2<=sizeLine;decide,[.int ((c+i:Nat):Int) tk,y],.cons ⟨tk,rfl⟩ (.cons ru .nil),IsTup.new _ _⟩
  have fe':mE X pins (upd H s.heap.objs.size (.tup [.int ((c+i:Nat):Int),x])) e:=⟨by rw [aC (Ne.symm hpe)];exact fe.1,fe.2⟩
  have fi':mE X pins (upd H s.heap.objs.size (.tup [.int ((c+i:Nat):Int),x])) it:=⟨by rw [aC (Ne.symm hpi)];exact fi.1,fi.2⟩
  have ht2:h2.get? s.heap.objs.size=some { cls:=.type "tuple",data:=.seq #[.int ((c+i:Nat):Int) tk,y] }:=(sb.2 _ hpe).trans ht
  have Ib:Inv X pins σ (upd H s.heap.objs.size (.tup [.int ((c+i:Nat):Int),x])) { s with heap:=h2,toks:=tk+1 }:=by
   refine Ia.turned2 (t':=tk+1) (fun b o n1 n2 q=>?_) fi' fe'
   by_cases z:b=s.heap.objs.size
   ·subst z
    have q':=Heap.get?_push_size s.heap (o:={ cls:=.type "tuple",data:=.seq #[.int ((c+i:Nat):Int) tk,y] }) rfl
    have q:(s.heap.push { cls:=.type "tuple",data:=.seq #[.int ((c+i:Nat):Int) tk,y] }).get? s.heap.objs.size=some o:=q
    rw [q'] at q
    rw [ht2];exact q
   ·have q:(s.heap.push { cls:=.type "tuple",data:=.seq #[.int ((c+i:Nat):Int) tk,y] }).get? b=some o:=q
    have q2:s.heap.get? b=some o:=by
     rcases Nat.lt_or_ge b s.heap.objs.size with hb|hb
     ·exact xy hb q
     ·have hlt:b<(s.heap.push { cls:=.type "tuple",data:=.seq #[.int ((c+i:Nat):Int) tk,y] }).objs.size:=Heap.lt_size q
      rw [Heap.size_push] at hlt
      exact absurd (Nat.le_antisymm (Nat.le_of_lt_succ hlt) hb) z
    exact (sb.2 b n2).trans (hk b o n2 n1 q2)
  refine ⟨.ref s.heap.objs.size,_,Ib,rfl,⟨_,x,rfl,hp,rfl,fun ys hy'=>by rw [N.inj X hK pins σ H s ys xs I hy' hq];exact hx⟩,⟨⟨y,by have q:=he2;rw [show ((c+(i+1):Nat):Int)=((c+i:Nat):Int)+1 by omega];exact q⟩,?_⟩,fun b hb=>?_⟩
  ·refine N.at_ (i+1) h1 h2 (p3 (i+1) h1 hs1) fun o q=>(sb.2 it (Ne.symm hei)).trans q
  ·simp only [List.mem_cons,List.mem_nil_iff,or_false] at hb
   rcases hb with rfl|rfl
   ·exact fe'.1
   ·exact fi'.1
 done:=by
  intro X hP hw hK hc i pins s σ H E I hf st hg
  obtain ⟨xs,hq,hx⟩:=hg
  obtain ⟨⟨old,he⟩,hi⟩:=st
  have fi:=hf it (by simp)
  have fin:=N.fin X hP hw hK hc pins σ H s xs i
  subst hP hw
  exact Gh he (fun Q' E' hE=>fin Q' E' I hq hx hi hE) fun h' hb=>⟨rfl,I.turned (t':=s.toks) (fun b o n q=>hb b o n q) fi.1 fi.2.1 fi.2.2.2.1 fi.2.2.2.2.1 fi.2.2.2.2.2⟩
 self:=fun A i s Q E st h=>by
  obtain ⟨⟨old,he⟩,_⟩:=st
  exact wpAny_pyIter_enum he h
theorem yX (a it:Addr):Inner P w K (fun H xs=>SqT K H a xs) a it (fun i h=>h.IsTupleIter it a i) where
 obj:=fun i h st=>let ⟨o,q,c,d⟩:=st;⟨o,q,fun v z=>by rw [d] at z;cases z⟩
 at_:=fun i h h' st k=>st.at k
 inj:=fun X hK pins σ H s xs ys I h1 h2=>by subst hK;exact I.tuple_inj h1 h2
 dr:=fun X hP hw hK hc pins σ H s xs c I hq hne=>by
  subst hP hw hK
  obtain ⟨its,rv,p,hz⟩:=I.tuple hq
  have hh:X.A.in1.handled=none:=I.ok.hd hc
  by_cases hai:a=it
  ·exact ⟨its,rv,hz,fun _ _=>False,fun _ _=>False,⟨fun _ _ z=>z.elim,fun _ _ _ z _=>z,fun _ _ _ _ _ z _=>z.elim,fun _ _ _ z _=>z.elim⟩,fun _ _ z=>z.elim,fun _ _ _ _ z=>absurd hai z,fun _ _ z=>z.elim⟩
  ·have Dq:=EN (prog:=X.prog) (w:=X.w) hh it a hai its.toArray c
   rw [List.size_toArray] at Dq
   refine ⟨its,rv,hz,fun i v=>∃ k,i=c+k/\its.toArray[k]?=some v,fun i h=>∃ k,i=c+k/\h.IsTupleIter it a k/\h.IsTuple a its.toArray,Dq,fun k v q=>?_,fun k h st kp _=>⟨k,rfl,st,?_⟩,fun k h q=>?_⟩
   ·obtain ⟨k',e,q⟩:=q
    have:k=k':=by omega
    subst this;simpa using q
   ·obtain ⟨o,ho,r⟩:=p
    exact ⟨o,kp o ho,r⟩
   ·obtain ⟨k',e,st,_⟩:=q
    have:k=k':=by omega
    subst this;exact st
 fin:=fun X hP hw hK hc pins σ H s xs i Q E I hq hx st hE=>by
  subst hP hw hK
  obtain ⟨its,rv,p,hz⟩:=I.tuple hq
  have hl:=rv.length
  exact Cc (I.ok.hd hc) st (show s.heap.IsTuple a its.toArray from p) (by simp;omega) hE
theorem pZ (a it:Addr):Inner P w K (fun H xs=>SqL K H a xs) a it (fun i h=>h.IsListIter it a i) where
 obj:=fun i h st=>let ⟨o,q,c,d⟩:=st;⟨o,q,fun v z=>by rw [d] at z;cases z⟩
 at_:=fun i h h' st k=>st.at k
 inj:=fun X hK pins σ H s xs ys I h1 h2=>by subst hK;exact I.list_inj h1 h2
 dr:=fun X hP hw hK hc pins σ H s xs c I hq hne=>by
  subst hP hw hK
  obtain ⟨its,rv,p,hz⟩:=I.list hq
  have hh:X.A.in1.handled=none:=I.ok.hd hc
  by_cases hai:a=it
  ·exact ⟨its,rv,hz,fun _ _=>False,fun _ _=>False,⟨fun _ _ z=>z.elim,fun _ _ _ z _=>z,fun _ _ _ _ _ z _=>z.elim,fun _ _ _ z _=>z.elim⟩,fun _ _ z=>z.elim,fun _ _ _ _ z=>absurd hai z,fun _ _ z=>z.elim⟩
  ·have Dq:=Gu (prog:=X.prog) (w:=X.w) hh it a hai its.toArray c
   rw [List.size_toArray] at Dq
   refine ⟨its,rv,hz,fun i v=>∃ k,i=c+k/\its.toArray[k]?=some v,fun i h=>∃ k,i=c+k/\h.IsListIter it a k/\h.IsList a its.toArray,Dq,fun k v q=>?_,fun k h st kp _=>⟨k,rfl,st,?_⟩,fun k h q=>?_⟩
   ·obtain ⟨k',e,q⟩:=q
    have:k=k':=by omega
    subst this;simpa using q
   ·obtain ⟨o,ho,r⟩:=p.isList
    exact ⟨o,kp o ho,r⟩
   ·obtain ⟨k',e,st,_⟩:=q
    have:k=k':=by omega
    subst this;exact st
 fin:=fun X hP hw hK hc pins σ H s xs i Q E I hq hx st hE=>by
  subst hP hw hK
  obtain ⟨its,rv,p,hz⟩:=I.list hq
  have hl:=rv.length
  exact wpAny_nextOf_list_end (I.ok.hd hc) st p.isList (by simp;omega) hE
end
end L2
namespace L2
open PySem PySem.Spec PyProof.Rows
noncomputable def bF (c:Nat) (xs:List D):List D:=(List.range xs.length).map fun i=>.tup [.int ((c+i:Nat):Int),xs.getD i .non]
theorem pH {c:Nat} {xs:List D} (h:(bF c xs)[i]?=some d):∃ x,xs[i]?=some x/\d=.tup [.int ((c+i:Nat):Int),x]:=by
 unfold bF at h
 rw [List.getElem?_map] at h
 by_cases hi:i<xs.length
 ·rw [List.getElem?_range hi] at h
  refine ⟨xs[i],List.getElem?_eq_getElem hi,?_⟩
  have e:xs.getD i .non=xs[i]:=by rw [List.getD_eq_getElem?_getD,List.getElem?_eq_getElem hi];rfl
  rw [<- e]
  exact (Option.some.inj h).symm
 ·rw [List.getElem?_eq_none (by simp;omega)] at h;cases h
theorem kF (c:Nat) (xs:List D):(bF c xs).length=xs.length:=by simp [bF]
theorem ItOk.enum {K:PySem.W.Frag} {c:Nat} (hs:∀ G1 H1,Same G G1->Same G1 H1->sq H1 vs) (r:Reps K G vs ds):ItOk K G (Ite sq c) (bF c ds):=by
 intro i G1 H1 s1 s2
 refine ⟨fun d e=>?_,fun hl=>⟨vs,hs G1 H1 s1 s2,by rw [kF] at hl;rw [r.length];exact hl⟩⟩
 obtain ⟨dx,ex,rfl⟩:=pH e
 obtain ⟨v,ev,rv⟩:=r.get ex
 refine ⟨⟨vs,v,hs G1 H1 s1 s2,ev⟩,fun x H' y=>?_⟩
 obtain ⟨p,x',rfl,hp,rfl,y⟩:=y
 have z:=y vs (hs G1 H1 s1 s2)
 rw [ev] at z
 cases z
 refine ⟨upd G1 p (.tup [.int ((c+i:Nat):Int),v]),.new s2 hp,.tup (.of aM) (.cons (.int _) (.cons ((rv.mono s1).mono (.into (s2.free hp))) .nil))⟩
section
variable {tp:Pos} {Rr:It->Hp->Prop}
theorem nq {l:Addr} {iter:Nat->Heap->Prop} {c:Nat} (I:Inv X pins σ H s) (N:Inner X.prog X.w X.K sq l (s.heap.objs.size) iter) (hl:l<s.heap.objs.size) (he:IsEnum h' (s.heap.objs.size+1) s.heap.objs.size (c:Int) .none) (hi:iter 0 h')
 (hk:∀ b o,s.heap.get? b=some o->h'.get? b=some o) (q:Rr (Ite sq c) H):PIE X pins σ (.Tuple elts kt tp) Rr (.ref (s.heap.objs.size+1)) { s with heap:=h' }:=by
 have hlt:s.heap.objs.size<=s.heap.objs.size+1:=Nat.le_succ _
 refine ⟨_,_,_,_,H,rfl,I.kept (t':=s.toks) hk,yL N c (Nat.ne_of_gt (Nat.lt_succ_self _)) (Nat.ne_of_gt (Nat.lt_succ_of_lt hl)) (Nat.ne_of_lt hl),⟨⟨_,he⟩,hi⟩,fun b hb=>?_,q⟩
 simp only [List.mem_cons,List.mem_nil_iff,or_false] at hb
 rcases hb with rfl|rfl
 ·exact I.fpOk hlt (I.hok.fresh hlt)
 ·exact I.fpOk (Nat.le_refl _) (I.hok.fresh (Nat.le_refl _))
theorem SqT.lt' (I:Inv X pins σ H s) (h:SqT X.K H a xs):a<s.heap.objs.size:=by
 obtain ⟨its,rv,⟨o,q,_⟩,_⟩:=I.tuple h
 exact Heap.lt_size q
theorem SqL.lt' (I:Inv X pins σ H s) (h:SqL X.K H a xs):a<s.heap.objs.size:=by
 obtain ⟨its,rv,p,_⟩:=I.list h
 obtain ⟨o,q,_⟩:=p.isList
 exact Heap.lt_size q
end
noncomputable def sS:D->R (List D)
 | .lst _ xs=>.ok (bF 0 xs)
 | .tup xs=>.ok (bF 0 xs)
 | _=>.no
noncomputable def Cd:D->D->R (List D)
 | .tup xs,.int c=>if 0<=c/\c<1073741824 then .ok (bF c.toNat xs) else .no
 | _,_=>.no
section
variable {a b:Expr} {ga:Ev->R D} {p tp kp:Pos}
theorem wu (hg:Gl X "enumerate") (hm:X.mg "enumerate"=none) (ha:PF X a ga) (hs:starEach [a] X.env=(false,eval a X.env)::starEach [] X.env:=by rfl) :
  PIF X (.Tuple elts kt tp) (.Call (.Name "enumerate" p) [a] [] pos) (aI sS ga):=by
 intro pins s σ H Rr I h
 obtain ⟨G,ρ,st,h⟩:=h
 have ta:Bo (tF X ga) Ir σ H (fun vs H1=>∃ v,vs=[v]/\∃ G1 d,Up G H G1 H1/\Rep X.K G1 v d/\Same G1 H1/\(sS d).post (Fin G1 H1 (fun G J items=>ItOk X.K G J items) Rr) (Exx X σ G1 H1)):=
  tG.intro st h fun d v G1 H1 u1 st1 r1 h1=>⟨v,rfl,G1,d,u1,r1,st1.sub,h1⟩
 refine Call_ (ka I hg hm PyProof.Rows.Boot.«enumerate» (PyProof.Rows.callWith_type1 (thn ((dJ ha jb hs) pos pins s σ H _ I ta) fun us s1 ⟨vs,H1,I1,r1,q1⟩=>?_) hs rfl))
 obtain ⟨v,hv,G1,d,u1,rd,sub,h1⟩:∃ v,vs=[v]/\∃ G1 d,Up G H G1 H1/\Rep X.K G1 v d/\Same G1 H1/\(sS d).post (Fin G1 H1 (fun G J items=>ItOk X.K G J items) Rr) (Exx X σ G1 H1):=q1
 subst hv
 obtain ⟨u,rfl,rv⟩:=r1.one
 cases rd with
 | lst hq t=>
  cases rv
  have hq':SqL X.K G1 _ _:=.of hq
  obtain ⟨its,rvs,p,hz⟩:=I1.list (hq'.mono sub)
  exact call_enumerate_list p.isList fun h' he hi hsz hk=>wpAny_pyIter_enum he (nq (c:=0) I1 (pZ _ _) (SqL.lt' I1 (hq'.mono sub)) he hi hk (h1 _ G1 H1 (.refl sub) (ItOk.enum (fun G2 H2 s1 s2=>(hq'.mono s1).mono s2) t)))
 | fls hq t=>
  cases rv
  obtain ⟨its,rvs,p,hz⟩:=I1.list (hq.mono sub)
  exact call_enumerate_list p.isList fun h' he hi hsz hk=>wpAny_pyIter_enum he (nq (c:=0) I1 (pZ _ _) (SqL.lt' I1 (hq.mono sub)) he hi hk (h1 _ G1 H1 (.refl sub) (ItOk.enum (fun G2 H2 s1 s2=>(hq.mono s1).mono s2) t)))
 | tup hq t=>
  cases rv
  obtain ⟨its,rvs,⟨⟨cls,dd,data,sl⟩,ho,hc,n,hd⟩,hz⟩:=I1.tuple (hq.mono sub)
  simp only at hc hd
  subst hc hd
  exact A9 ho fun h' he hi hsz hk=>wpAny_pyIter_enum he (nq (c:=0) I1 (yX _ _) (SqT.lt' I1 (hq.mono sub)) he ⟨_,hi,rfl,rfl⟩ hk (h1 _ G1 H1 (.refl sub) (ItOk.enum (fun G2 H2 s1 s2=>(hq.mono s1).mono s2) t)))
 | _=>exact h1.elim
noncomputable def Fj (ga gb:Ev->R D):Ev->R (List D):=fun ρ=>ga ρ>>=fun x=>gb ρ>>=fun c=>Cd x c
end
noncomputable def ED:List D->Option D
 | [.lst _ ds]=>match oK ds with
  | some ns=>some (.int ns.sum)
  | none=>none
 | [.tup ds]=>match oK ds with
  | some ns=>some (.int ns.sum)
  | none=>none
 | _=>none
theorem Vals.ints:∀ {ns:List Int} {its:List Value},Vals (ns.map V.int) its->IntsAre its ns
 | [],_,.nil=>.nil
 | n::ns,_,.cons r t=>by
  obtain ⟨tk,rfl⟩:=r
  exact .cons n tk (Vals.ints t)
section
theorem qJ {ns:List Int} (rv:Vals (ns.map V.int) its):∃ xs:Array (Int×Tok),its.toArray=intItems xs/\preSum (numAt xs) xs.size=ns.sum:=by
 have hi:=Vals.ints rv
 obtain ⟨xs,hx⟩:=hi.allInts.items
 have e1:ns=xs.toList.map (·.1):=by
  rw [<- nums_intItems,<- hx]
  exact (show numsOf its.toArray.toList=ns from hi.numsOf).symm
 exact ⟨xs,hx,by rw [preSum_eq,List.take_of_length_le (by simp),e1]⟩
theorem yf (hc:X.calm=true):jN X (.builtin "sum") (fun xs H Q=>∃ p,∃ ns:List Int,xs=[.ref p]/\(SqL X.K H p (ns.map V.int)\/SqT X.K H p (ns.map V.int))/\Q (.int ns.sum) H):=by
 intro pins s σ H xs us Q I r ⟨p,ns,ex,hs,q⟩
 subst ex
 obtain ⟨u,rfl,r1⟩:=r.one
 cases r1
 rcases hs with hs|hs
 ·obtain ⟨its,rv,pl,hz⟩:=I.list hs
  obtain ⟨xs,hx,e2⟩:=qJ rv
  refine sum_intListG (I.ok.hd hc) (hx ▸ pl.isList) fun h' tk t' hk=>?_
  rw [e2]
  exact ⟨.int _,H,I.kept (t':=tk) hk,⟨_,rfl⟩,q⟩
 ·obtain ⟨its,rv,pl,hz⟩:=I.tuple hs
  obtain ⟨xs,hx,e2⟩:=qJ rv
  have ht:s.heap.IsTuple p its.toArray:=pl
  refine PySem.W.ktm_sumG (I.ok.hd hc) (hx ▸ ht) fun h' tk t' hk=>?_
  rw [e2]
  exact ⟨.int _,H,I.kept (t':=tk) hk,⟨_,rfl⟩,q⟩
theorem DN (K:PySem.W.Frag):HE K (fun xs H Q=>∃ p,∃ ns:List Int,xs=[.ref p]/\(SqL K H p (ns.map V.int)\/SqT K H p (ns.map V.int))/\Q (.int ns.sum) H) ED:=by
 intro G H xs ds d Q s r e q
 unfold ED at e
 split at e
 ·split at e
  ·rename_i ns hn
   cases e
   obtain ⟨v,rfl,r1⟩:=r.one
   obtain ⟨a,vs,rfl,hs,rr⟩:=r1.seq_inv
   obtain rfl:=rr.nums hn
   exact ⟨a,ns,rfl,.inl (hs.mono s),q _ G H (.refl s) (.int _)⟩
  ·cases e
 ·split at e
  ·rename_i ns hn
   cases e
   obtain ⟨v,rfl,r1⟩:=r.one
   obtain ⟨a,vs,rfl,hs,rr⟩:=r1.tup_inv
   obtain rfl:=rr.nums hn
   exact ⟨a,ns,rfl,.inr (hs.mono s),q _ G H (.refl s) (.int _)⟩
  ·cases e
 ·cases e
theorem IK {e:Expr} {p:Pos} (hc:X.calm=true) (hg:Gl X "sum") (hm:X.mg "sum"=none) (ha:PFA X [e] gl) (he:starEach [e] X.env=(false,eval e X.env)::starEach [] X.env:=by rfl) :
  PF X (.Call (.Name "sum" p) [e] [] pos) (gOf ED gl):=nJ (yf hc) (DN _) hg hm PyProof.Rows.Boot.«sum» ha (by decide) (by decide) he rfl
end
noncomputable def Jt (i j:Nat) (ga:Ev->R D) (gl:Ev->R (List D)):Ev->O:=fun ρ=>(ga ρ).out ρ fun d=>(gl ρ).out ρ fun ds=>.nx ((ρ.set i (some (.val d))).set j (some (.own ds)))
theorem Inv.turnedL {σ:List (Option V)} {t':Nat} (I:Inv X pins σ H s) (k:∀ b o,b ∉ ch->s.heap.get? b=some o->h'.get? b=some o) (f:∀ b∈ch,mE X pins H b) :
  Inv X pins σ H { s with heap:=h',toks:=t' }:=by
 have n1:∀ b u,H b=some u->b ∉ ch:=fun b u q z=>by rw [(f b z).1] at q;cases q
 refine I.step (g':=s.gens) (d':=s.drawn) (ch:=ch) (fun b hb=>?_) (fun b o _ _ hc q _=>k b o hc q) (fun b o _ _ hc q _=>⟨o.slots,k b o hc q⟩) (fun _ _ _ _ n=>n) (fun b o hc q=>⟨o,k b o hc q⟩) (fun _ _ q=>q) (fun _ _ _ q=>q) (fun b ps q=>⟨#[],by rw [q];simp⟩) (fun m hm=>?_) (fun b u q=>?_) I.bare
 ·obtain ⟨a0,a1,a2,a3,a4,a5⟩:=f b hb
  exact ⟨a3,a1,a4,a5⟩
 ·obtain ⟨o,es,ep,ho,r⟩:=hm
  exact ⟨o,es,ep,k _ o (fun z=>(f _ z).2.1 rfl) ho,r⟩
 ·refine (I.hok b u q).stay (fun c v hc q'=>k c v ?_ q') (fun _ q'=>q') fun _ _ q'=>q'
  rcases hc with z|z
  ·rw [z];exact n1 b u q
  ·exact n1 c _ z
noncomputable def HA:D->D->R D
 | .str x,.int k=>if k = -1 then .ok (.str x.reverse) else .no
 | .lst _ xs,.int k=>if k = -1 then .ok (.lst false xs.reverse) else .no
 | _,_=>.no
noncomputable def Lf (ga gs:Ev->R D):Ev->R D:=fun ρ=>ga ρ>>=fun x=>gs ρ>>=fun k=>HA x k
noncomputable def uF (gt:Ev->R Bool) (g:Ev->O):Nat->Ev->O
 | 0,_=>.no
 | n+1,ρ=>(gt ρ).out ρ fun k=>if k=true then (match g ρ with
  | .nx ρ2=>uF gt g n ρ2
  | .ct ρ2=>uF gt g n ρ2
  | .bk ρ2=>.nx ρ2
  | .rt d=>.rt d
  | .re d ρ2=>.re d ρ2
  | .ex C ρ2=>.ex C ρ2
  | .no=>.no) else .nx ρ
noncomputable def FJ (n:Nat) (gt:Ev->R Bool) (g:Ev->O):Ev->O:=fun ρ=>uF gt g n ρ
noncomputable def xw (gs:List (Ev->R D)) (ρ:Ev):D->R D
 | .int i=>if 0<=i then (match gs[i.toNat]? with
  | some g=>g ρ
  | none=>.no) else .no
 | _=>.no
noncomputable def Ie (gs:List (Ev->R D)) (gi:Ev->R D):Ev->R D:=fun ρ=>gi ρ>>=xw gs ρ
theorem E0 {gi:Ev->R D}:Ie gs gi ρ=gi ρ>>=xw gs ρ:=rfl
theorem E5 {g:Ev->R D}:xw (g::gs) ρ (.int 0)=g ρ:=rfl
theorem Hs {f g:Ev->R D}:xw (f::g::gs) ρ (.int 1)=g ρ:=rfl
section
variable {a b:Expr} {ga:Ev->R D}
theorem Ba {z:Str} {l:List Nat} {t:Tok} (hg:Gl X x) (hm:X.mg x=some (.str z t)) (hl:z.cps.toList=l:=by rfl) (hz:l.length<=1000:=by decide) (hd:(x==("__debug__":Str))=false:=by decide):PF X (.Name x pos) (fun _=>.ok (.str l)):=
 gY (ou (v:=.str z) hg hm ⟨t,rfl⟩ hd) fun _ _=>.strL hl (Nat.le_trans hz (by decide))
structure KTup (K:PySem.W.Frag) (c:Addr) (ls:List (List Nat)):Prop where
 ex:∃ (o:Obj) (its:Array Value) (n:Nat) (vs:List V),K.lookup c=some o/\o.cls=.type "tuple"/\o.data=.seq its n/\its.size<=sizeLine/\Vals vs its.toList/\∀ G,Reps K G vs (ls.map .str)
end
noncomputable def KN (n:Nat):List Nat:=(Nat.toDigits 10 n).map Char.toNat
section
variable {a b c e e1 e2 e3 e4 e5:Expr} {ga gc g1 g2' g3' g4 g5:Ev->R D} {p:Pos}
noncomputable def KI:D->R D
 | .int i=>if 0<=i/\i<10000000000 then .ok (.str (KN i.toNat)) else .no
 | .str x=>.ok (.str x)
 | _=>.no
noncomputable def sV:List (Ev->R D)->List Nat->Ev->R D
 | [],out=>fun _=>.ok (.str out)
 | g::gs,out=>fun ρ=>g ρ>>=fun d=>match d with
  | .str x=>if (out++x).length<=sizeLine then sV gs (out++x) ρ else .no
  | _=>.no
noncomputable def IE (gs:List (Ev->R D)):Ev->R D:=sV gs []
end
noncomputable def HF (j i:Nat) (gl:Ev->R (List D)):Ev->O:=fun ρ=>(fK (gl (frz j ρ))).out ρ fun ds=>if ds.all (fl 10)=true then .nx (ρ.set i (some (.own ds))) else .no
section
variable {prog:Program} {w:World} {A:Around}
structure Z3 (z TI TO i1 i2 i3 l1 l2 l3:Addr):Prop where
 nd:[z,TI,TO,i1,i2,i3].Nodup
 ap:∀ l∈[l1,l2,l3],l ∉ [z,TO,i1,i2,i3]
end
noncomputable def tO (asg:D->Ev->R Ev) (gt:Ev->R Bool) (ge:Ev->R D):List D->Ev->R (List D)
 | [],_=>.ok []
 | d::ds,ρ=>fK (asg d ρ)>>=fun ρ1=>fK (gt ρ1)>>=fun k=>if k=true then ge ρ1>>=fun x=>tO asg gt ge ds ρ1>>=fun xs=>.ok (x::xs) else tO asg gt ge ds ρ1
noncomputable def Fg (gi:Ev->R (List D)) (ix:List Nat) (gt:Ev->R Bool) (ge:Ev->R D):Ev->R (List D):=fun ρ=>gi ρ>>=fun items=>if items.length<=sizeLine then tO (lX 0) gt ge items (hU ix ρ) else .no
section
variable {a b c e ix:Expr} {ga gi:Ev->R D} {p p1 p2 p3 pl sp:Pos}
noncomputable def Gm (c:Nat):List Nat->Option (List Nat×List Nat)
 | []=>none
 | d::r=>if d=c then some ([],r) else (Gm c r).map fun p=>(d::p.1,p.2)
noncomputable def DH (c:Nat) (x:List Nat):List Nat×List Nat×List Nat:=match Gm c x with
 | some (p,q)=>(p,[c],q)
 | none=>(x,[],[])
noncomputable def Jd:D->List D->Option D
 | .str x,[.str [c]]=>if x.length<=10000 then some (.tup [.str (DH c x).1,.str (DH c x).2.1,.str (DH c x).2.2]) else none
 | _,_=>none
theorem Hh {f g h:Ev->R D}:xw (f::g::h::gs) ρ (.int 2)=h ρ:=rfl
end
structure ClOk (N:List Str) (scope:Scope) (cl:List (Str×Addr)) (σ:St) (H:Hp) (h:Heap):Prop where
 kind:scope.kind=.function
 nocell:∀ y∈scope.names,y.2 ≠ .cell
 inj:∀ y z c,cl.lookup y=some c->cl.lookup z=some c->y=z
 has:∀ y,scope.names.lookup y=some .free->∃ c,cl.lookup y=some c
 cell:∀ y c,cl.lookup y=some c->H c=none/\∃ v,h.IsCell c v
 val:∀ (i:Nat) y v,N[i]?=some y->σ[i]?=some (some v)->∃ u c,RelV v u/\scope.names.lookup y=some .free/\cl.lookup y=some c/\h.IsCell c (some u)
 len:σ.length=N.length
section
variable {params:Arguments} {body:Expr} {c P:Addr} {ps:Array Value} {Q:Value->Shared->Prop}
structure Lam (X:Cx) (pins:List (Addr×Obj)) (σ:St) (H:Hp) (s:Shared) (params:Arguments) (body:Expr) (scope:Scope) (f:Addr) (cd ctv pm:Value) (H1:Hp) (s1:Shared):Prop where
 inv:Inv X pins σ H1 s1
 hh:Same H H1
 new:∀ a,H a=none->H1 a=none\/s.heap.objs.size<=a
 free:H1 f=none
 fn:s1.heap.get? f=some { cls:=.type "function",data:=.func (PySem.W.kla_fn "<lambda>" (X.env.qual++"<lambda>") params body scope (uX X.env scope.names []) pm cd ctv) }
 codeH:∃ c o vs t u,cd=.ref c/\H1 c=some (.frz o u)/\o.data=.fields vs/\vs[1]?=some (.str (X.env.qual++"<lambda>") t)
end
structure FnFH (P:Program) (w:World) (K:PySem.W.Frag) (mg:Str->Option Value) (base:Heap) (k:Nat) (f:Addr) (fd:FuncData) (ps:List Str) (g:List D->R D):Prop where
 run:∀ (A:Around) (x:Addr) (outer:List Env) (s:Shared) (H:Hp) (args:Args) (us:List Value) (vs:List V) (Q:VK) (E:XK),Room k A->Env0 P w K mg base A outer s H->BindsTo s fd args (ps.zip us)->Vals vs us->(vs.length=ps.length/\spF K g vs H Q E)->
  codeAny (model P w) (A.mark (some (.ref x))) (.call (.ref f) args) (CR (CXo P w) outer P w H s Q E) s
structure CalleeH (P:Program) (w:World) (K:PySem.W.Frag) (mg:Str->Option Value) (base:Heap) (x:Str) (k n:Nat) (g:List D->R D):Prop where
 ex:∃ f fd ps,FnFH P w K mg base k f fd ps g/\mg x=some (.ref f)/\PySem.W.keepIn K (.ref f)=true/\Binds K fd ps []/\ps.length=n
noncomputable def Fx (P:Program) (w:World) (K:PySem.W.Frag) (mg:Str->Option Value) (base:Heap) (k:Nat) (s1:Shared) (G1 H1:Hp) (f:Addr) (m:R D):Prop:=
 ∀ (Y:Cx) (pins:List (Addr×Obj)) (σY:St) (G2 H2:Hp) (s2:Shared) (fs:List Addr) (Q:VK),Y.prog=P->Y.w=w->Y.K=K->Y.mg=mg->Y.base=base->Inv Y pins σY H2 s2->Room k Y.A->Un fs [] H1 H2 s1.heap s2.heap->Up G1 H1 G2 H2->
  m.post (Fin G2 H2 (Rep Y.K) Q) (Exx Y σY G2 H2)->(∃ o fd,s2.heap.get? f=some o/\o.data=.func fd)/\wpAny (model Y.prog Y.w) Y.A (call (.ref f) []) (EP Y pins σY Q) Y.xe s2
structure Told (P:Program) (w:World) (K:PySem.W.Frag) (mg:Str->Option Value) (base:Heap) (x:Str) (k j:Nat) (g:R D->R D):Prop where
 ex:∃ ft,mg x=some (.ref ft)/\PySem.W.keepIn K (.ref ft)=true/\∀ (A:Around) (outer:List Env) (s1:Shared) (G1 H1:Hp) (f:Addr) (m:R D) (Q:VK) (E:XK),Room k A->Env0 P w K mg base A outer s1 H1->Same G1 H1->Fx P w K mg base j s1 G1 H1 f m->
  (g m).post (Fin G1 H1 (Rep K) Q) (fun C=>∀ G' H',Up G1 H1 G' H'->E (.ref C) none H')->codeAny (model P w) A (.call (.ref ft) ⟨[.ref f],[]⟩) (CR (CXo P w) outer P w H1 s1 Q E) s1
structure LamAt (X:Cx):Prop where
 ex:∃ c P q,X.env.code=.ref c/\(∀ h,X.K.In h->PySem.W.CodeHd h c P)/\Hx X.base P q/\q=X.env.qual++"<lambda>"/\X.base.BuiltinsAt X.mg P/\mainGlobals≠P
structure LamOk (X:Cx) (scope:Scope) (N':List Str) (ix:List Nat):Prop where
 kind:scope.kind=.function
 co:scope.isCoroutine=false
 gen:scope.isGenerator=false
 cell:∀ y∈scope.names,y.2 ≠ .cell
 fr:∀ y∈scope.names,y.2=.free->X.env.kindOf y.1=some .cell
 tl:N'=ix.map fun (i:Nat)=>X.N.getD i Str.empty
 lt:∀ i∈ix,i<X.N.length
 fre:∀ y∈N',scope.names.lookup y=some .free/\(y,NameKind.free)∈scope.names
structure LamDef (K:PySem.W.Frag) (mg:Str->Option Value) (fd:FuncData) (Pt:Addr):Prop where
 ex:∃ c,fd.code=.ref c/\∀ h,K.In h->PySem.W.CodeHd h c Pt
 ne:mainGlobals≠Pt
structure LamB (K:PySem.W.Frag) (mg:Str->Option Value) (base:Heap) (qual:Str) (fd:FuncData) (Pt:Addr):Prop where
 ld:LamDef K mg fd Pt
 tb:Hx base Pt (qual++".<locals>."++"<lambda>")
 bm:base.BuiltinsAt mg Pt
noncomputable def hid (H:Hp) (ow:jg):Hp:=fun a=>if (ow a).isSome=true then none else H a
theorem Bk {o:HO} (h:hid H ow a=some o):H a=some o/\ow a=none:=by
 unfold hid at h
 split at h
 ·cases h
 ·rename_i q;exact ⟨h,by cases e:ow a with|none=>rfl|some t=>rw [e] at q;exact absurd rfl q⟩
theorem iZ {t:Nat×Nat} (h:ow a=some t):hid H ow a=none:=by
 unfold hid;rw [h];exact if_pos rfl
theorem gK (h:ow a=none):hid H ow a=H a:=by
 unfold hid;rw [h];exact if_neg (by simp)
theorem Dk (H:Hp) (ow:jg):Same (hid H ow) H:=fun a o e=>(Bk e).1
noncomputable def rO (i j:Nat) (ow:jg):jg:=fun a=>match ow a with
 | some (i',t)=>if i'=i then some (j,t) else none
 | none=>none
theorem mU {t:Nat} (h:ow a=some (i,t)):rO i j ow a=some (j,t):=by
 unfold rO;rw [h];exact if_pos rfl
theorem AL {t:Nat×Nat} (h:rO i j ow a=some t):ow a=some (i,t.2)/\t.1=j:=by
 unfold rO at h
 split at h
 ·rename_i i' t' e
  split at h
  ·rename_i z;subst z;cases h;exact ⟨e,rfl⟩
  ·cases h
 ·cases h
section
variable {K:PySem.W.Frag} {H₀:Hp} {m:Bool} {fs:List (Nat×Fd)}
theorem FdAt.hid {m':Bool}:∀ {fd:Fd} {v:V},FdAt K H₀ G H ow i m k fd v->FdAt K (L2.hid H ow) G H ow i m' k fd v
 | .val d,v,r=>r
 | .own ds,v,⟨l,ws,e,h1,h2,h3,h4,h5⟩=>⟨l,ws,e,h1,h2,fun _=>iZ h5,h4,h5⟩
theorem FdsAt.hid {m':Bool}:∀ {fs:List (Nat×Fd)} {vs:List (Str×V)},FdsAt K H₀ G H ow i m fs vs->FdsAt K (L2.hid H ow) G H ow i m' fs vs
 | _,_,.nil=>.nil
 | _,_,.cons h nk r t=>.cons h nk (FdAt.hid r) (FdsAt.hid t)
theorem InsAt.hid (h:InsAt K H₀ G H ow i m C p fs) (m':Bool):InsAt K (L2.hid H ow) G H ow i m' C p fs:=by
 obtain ⟨dx,vs,h1,h2,h3,h4,h5,h6,h7,h8⟩:=h
 exact ⟨dx,vs,h1,h2,h3,h4,fun _=>⟨iZ h6,iZ h7⟩,h6,h7,h8.hid⟩
theorem DcoAt.hid (h:DcoAt K H₀ G H ow i m p fs) (m':Bool):DcoAt K (L2.hid H ow) G H ow i m' p fs:=
 let ⟨o,xs,ks,ds,h1,h2,h3,h4,h5,h6,h7⟩:=h
 ⟨o,xs,ks,ds,h1,h2,fun _=>iZ h4,h4,h5,h6,h7⟩
theorem ObjAt.hid (h:ObjAt K H₀ G H ow i m C p fs) (m':Bool):ObjAt K (L2.hid H ow) G H ow i m' C p fs:=h.imp (fun z=>⟨z.1,z.2.hid m'⟩) fun z=>⟨z.1,z.2.hid m'⟩
theorem FdAt.ro {H₀':Hp}:∀ {fd:Fd} {v:V},FdAt K H₀ G H ow i m k fd v->FdAt K H₀' G H ow i false k fd v
 | .val d,v,r=>r
 | .own ds,v,⟨l,ws,e,h1,h2,h3,h4,h5⟩=>⟨l,ws,e,h1,h2,fun z=>absurd z (by decide),h4,h5⟩
theorem FdsAt.ro {H₀':Hp}:∀ {fs:List (Nat×Fd)} {vs:List (Str×V)},FdsAt K H₀ G H ow i m fs vs->FdsAt K H₀' G H ow i false fs vs
 | _,_,.nil=>.nil
 | _,_,.cons h nk r t=>.cons h nk (FdAt.ro r) (FdsAt.ro t)
theorem InsAt.ro (h:InsAt K H₀ G H ow i m C p fs) (H₀':Hp):InsAt K H₀' G H ow i false C p fs:=by
 obtain ⟨dx,vs,h1,h2,h3,h4,h5,h6,h7,h8⟩:=h
 exact ⟨dx,vs,h1,h2,h3,h4,fun z=>absurd z (by decide),h6,h7,h8.ro⟩
theorem DcoAt.ro (h:DcoAt K H₀ G H ow i m p fs) (H₀':Hp):DcoAt K H₀' G H ow i false p fs:=
 let ⟨o,xs,ks,ds,h1,h2,h3,h4,h5,h6,h7⟩:=h
 ⟨o,xs,ks,ds,h1,h2,fun z=>(nomatch z),h4,h5,h6,h7⟩
theorem ObjAt.ro (h:ObjAt K H₀ G H ow i m C p fs) (H₀':Hp):ObjAt K H₀' G H ow i false C p fs:=h.imp (fun z=>⟨z.1,z.2.ro H₀'⟩) fun z=>⟨z.1,z.2.ro H₀'⟩
end
noncomputable def cV (m:Bool) (C p:Addr) (fs:List (Nat×Fd)) (n:Nat) (ds:List D):Ev:=some (.obj m C p fs)::(ds.map (fun d=>some (.val d))++List.replicate (n - (ds.length+1)) none)
theorem pV {K:PySem.W.Frag} {H₀:Hp} {m:Bool} {fs:List (Nat×Fd)} {N:List Str} {us:List V} (sub0:Same G H₀) (up:Up G H₀ G H) (r:Reps K G us ds) (ob:ObjAt K H₀ G H ow 0 m C p fs) :
  StR K G H₀ G H (start N (.ref p::us)) (cV m C p fs N.length ds):=by
 have hl:=r.length
 have get:∀ (i:Nat) x,(cV m C p fs N.length ds)[i]?=some (some x)->(i=0/\x=.obj m C p fs)\/∃ k d,i=k+1/\ds[k]?=some d/\x=.val d:=fun i x e=>by
  cases i with
  | zero=>left;cases e;exact ⟨rfl,rfl⟩
  | succ k=>
   right
   unfold cV at e
   rw [List.getElem?_cons_succ] at e
   by_cases hi:k<ds.length
   ·rw [List.getElem?_append_left (by simpa using hi),List.getElem?_map] at e
    cases q:ds[k]? with
    | none=>rw [q] at e;cases e
    | some d=>rw [q] at e;cases e;exact ⟨k,d,rfl,q,rfl⟩
   ·rw [List.getElem?_append_right (by simpa using hi),List.getElem?_replicate] at e
    split at e <;> cases e
 have obs:ObSt K H₀ G H (start N (.ref p::us)) (cV m C p fs N.length ds):=by
  refine ⟨ow,fun i es l e=>?_,fun i m' C' p' fs' e=>?_⟩
  ·rcases get i _ e with ⟨_,z⟩|⟨k,d,_,_,z⟩ <;> cases z
  ·rcases get i _ e with ⟨rfl,z⟩|⟨k,d,_,_,z⟩
   ·cases z;exact ⟨rfl,ob⟩
   ·cases z
 refine ⟨⟨up.sub,?_,fun i d e=>?_,obs.rd⟩,sub0,up,fun i es e=>?_,fun i j es fs l e=>?_,obs⟩
 ·simp [start,cV,hl]
 ·rcases get i _ e with ⟨_,z⟩|⟨k,d',rfl,e',z⟩
  ·cases z
  ·cases z
   obtain ⟨v,ev,rv⟩:=r.get e'
   refine ⟨v,?_,rv⟩
   unfold start
   rw [List.map_cons,List.cons_append,List.getElem?_cons_succ,List.getElem?_append_left (by have:=(List.getElem?_eq_some_iff.mp ev).1;simpa using this),List.getElem?_map,ev]
   rfl
 ·rcases get i _ e with ⟨_,z⟩|⟨k,d,_,_,z⟩ <;> cases z
 ·rcases get i _ e with ⟨_,z⟩|⟨k,d,_,_,z⟩ <;> cases z
inductive RM where
 | ok (d:D) (fs:List (Nat×Fd))|rd (d:D)|ex (C:Addr)|no
noncomputable abbrev MF:=List (Nat×Fd)->List D->RM
noncomputable def cW (C:Addr) (g:Ev->O) (n:Nat) (F:MF):Prop:=∀ p fs ds,match F fs ds with
 | .ok d fs'=>∃ ρ',ρ'[0]?=some (some (.obj true C p fs'))/\(g (cV true C p fs n ds)=.re d ρ'\/(g (cV true C p fs n ds)=.nx ρ'/\d=.non))
 | .rd d=>g (cV false C p fs n ds)=.rt d
 | .ex E=>∃ ρ',g (cV false C p fs n ds)=.ex E ρ'
 | .no=>True
noncomputable def spM (K:PySem.W.Frag) (C:Addr) (F:MF):Sp:=fun vs H Q E=>∃ G p us ds fs ow,vs=.ref p::us/\Reps K G us ds/\Same G H/\(∀ a t,ow a=some t->G a=none)/\ObjAt K (fun _=>none) G H ow 0 true C p fs/\match F fs ds with
 | .ok d fs'=>∀ v G' H' ow',Up G (hid H ow) G' H'->ObjAt K (hid H ow) G' H' ow' 0 true C p fs'->Rep K G' v d->Q v H'
 | .rd d=>∀ v G' H',Up G H G' H'->Rep K G' v d->Q v H'
 | .ex C'=>∀ G' H',Up G H G' H'->E (.ref C') none H'
 | .no=>False
noncomputable abbrev FnM (P:Program) (w:World) (K:PySem.W.Frag) (mg:Str->Option Value) (base:Heap) (k:Nat) (f:Addr) (fd:FuncData) (ps:List Str) (C:Addr) (F:MF):Prop:=FnOk P w K mg base (CXo P w) k f fd ps (fun vs H Q E=>vs.length=ps.length/\spM K C F vs H Q E)
theorem Fz (sub:Same G H) (hg:∀ a t,ow a=some t->G a=none):Same G (hid H ow)/\Up G (hid H ow) G H:=by
 have s:Same G (hid H ow):=fun a o e=>by
  cases q:ow a with
  | none=>rw [gK q];exact sub a o e
  | some t=>rw [hg a t q] at e;cases e
 exact ⟨s,sub,.refl _,Dk H ow,fun _ _ e=>.inl e⟩
theorem Fun.okM {w:World} {K:PySem.W.Frag} {mg:Str->Option Value} {base:Heap} {N:List Str} {F:MF} (Fn:Fun K x qual st f fd) (S:FnScope N ps (ag st)) {g:Ev->O} (ok:cW C g N.length F)
 (hbody:∀ (cdv:Value) (A:Around) (outer:List Env) (s:Shared) (H:Hp) (E:XK),Room k (A.deeper (envOfC qual (ag st) s.heap.objs.size f cdv))->oJ (gj (CXo P w) P w K mg base N qual (ag st) f cdv A outer s H E) (aZ st) g) :
  FnM P w K mg base (k+1) f fd ps C F:=by
 obtain ⟨oc,od,kV,doc,pm,an,cdv,ct,osl,rfl,lk,hcd⟩:=Fn.ex
 refine Dc lk hcd S (fun vs H Q E h=>h.1) fun A outer s H vs Q E hr hsp=>?_
 obtain ⟨hl,G,p,us,ds,fs,ow,rfl,r,sub,og,ob,h⟩:=hsp
 have o:=ok p fs ds
 have rdo:StR K G H G H (start N (.ref p::us)) (cV false C p fs N.length ds):=pV sub (.refl sub) r (ob.ro H)
 cases q:F fs ds with
 | no=>rw [q] at h;exact h.elim
 | rd d=>
  rw [q] at h o
  refine ⟨_,hbody cdv A outer s H E hr G H,G,_,rdo,?_⟩
  have o:g (cV false C p fs N.length ds)=.rt d:=o
  rw [o]
  exact fun v G' H' u rv=>h v G' H' u rv
 | ex C'=>
  rw [q] at h o
  obtain ⟨ρ',o⟩:=o
  refine ⟨_,hbody cdv A outer s H E hr G H,G,_,rdo,?_⟩
  rw [o]
  exact fun e s' fl=>oz fl h
 | ok d fs'=>
  rw [q] at h o
  obtain ⟨ρ',e0,o⟩:=o
  obtain ⟨s0,u0⟩:=Fz sub og
  refine ⟨_,hbody cdv A outer s H E hr G (hid H ow),G,cV true C p fs N.length ds,pV s0 u0 r (ob.hid true),?_⟩
  have fin:∀ σ G' H',StR K G (hid H ow) G' H' σ ρ'->∃ ow',ObjAt K (hid H ow) G' H' ow' 0 true C p fs':=fun σ G' H' sr=>by
   obtain ⟨ow',_,o2⟩:=sr.ob
   exact ⟨ow',(o2 0 true C p fs' e0).2⟩
  rcases o with o|⟨o,rfl⟩
  ·rw [o]
   intro v σ G' H' sr rv
   obtain ⟨ow',z⟩:=fin σ G' H' sr
   exact h v G' H' ow' sr.up z rv
  ·rw [o]
   intro σ G' H' sr
   obtain ⟨ow',z⟩:=fin σ G' H' sr
   exact h .non G' H' ow' sr.up z .non
noncomputable def lZ (i:Nat) (m:Bool) (H₀ G H:Hp) (ow:jg):jg:=fun a=>open Classical in if (∃ o,H a=some o)/\G a=none/\(m=true->H₀ a=none) then rO i 0 ow a else none
section
variable {K:PySem.W.Frag} {H₀:Hp} {m:Bool} {fs:List (Nat×Fd)}
theorem nL {t:Nat} {o:HO} (h:ow a=some (i,t)) (e:H a=some o) (g:G a=none) (z:m=true->H₀ a=none):lZ i m H₀ G H ow a=some (0,t):=by
 unfold lZ;rw [if_pos ⟨⟨o,e⟩,g,z⟩];exact mU h
theorem im {t:Nat×Nat} (h:lZ i m H₀ G H ow a=some t):ow a=some (i,t.2)/\(∃ o,H a=some o)/\G a=none/\(m=true->H₀ a=none):=by
 unfold lZ at h
 split at h
 ·rename_i q;exact ⟨(AL h).1,q⟩
 ·cases h
theorem FdAt.cut:∀ {fd:Fd} {v:V},FdAt K H₀ G H ow i m k fd v->FdAt K (fun _=>none) G H (lZ i m H₀ G H ow) 0 true k fd v
 | .val d,v,r=>r
 | .own ds,v,⟨l,ws,e,h1,h2,h3,h4,h5⟩=>⟨l,ws,e,h1,h2,fun _=>rfl,h4,nL h5 h1 h2 h3⟩
theorem FdsAt.cut:∀ {fs:List (Nat×Fd)} {vs:List (Str×V)},FdsAt K H₀ G H ow i m fs vs->FdsAt K (fun _=>none) G H (lZ i m H₀ G H ow) 0 true fs vs
 | _,_,.nil=>.nil
 | _,_,.cons h nk r t=>.cons h nk (FdAt.cut r) (FdsAt.cut t)
theorem InsAt.cut (h:InsAt K H₀ G H ow i m C p fs):InsAt K (fun _=>none) G H (lZ i m H₀ G H ow) 0 true C p fs:=by
 obtain ⟨dx,vs,h1,h2,h3,h4,h5,h6,h7,h8⟩:=h
 exact ⟨dx,vs,h1,h2,h3,h4,fun _=>⟨rfl,rfl⟩,nL h6 h1 h3 fun z=>(h5 z).1,nL h7 h2 h4 fun z=>(h5 z).2,h8.cut⟩
theorem DcoAt.cut (h:DcoAt K H₀ G H ow i m p fs):DcoAt K (fun _=>none) G H (lZ i m H₀ G H ow) 0 true p fs:=
 let ⟨o,xs,ks,ds,h1,h2,h3,h4,h5,h6,h7⟩:=h
 ⟨o,xs,ks,ds,h1,h2,fun _=>rfl,nL h4 h1 h2 h3,h5,h6,h7⟩
theorem ObjAt.cut (h:ObjAt K H₀ G H ow i m C p fs):ObjAt K (fun _=>none) G H (lZ i m H₀ G H ow) 0 true C p fs:=h.imp (fun z=>⟨z.1,z.2.cut⟩) fun z=>⟨z.1,z.2.cut⟩
end
section
variable {K:PySem.W.Frag} {H₀ H₀':Hp} {ow2:jg}
theorem FdAt.newtag (h:∀ a t,ow a=some (0,t)->H₀ a=none->ow2 a=some (i,t)) (z:∀ a,H₀ a=none->H₀' a=none):∀ {fd:Fd} {v:V},FdAt K H₀ G H ow 0 true k fd v->FdAt K H₀' G H ow2 i true k fd v
 | .val d,v,r=>r
 | .own ds,v,⟨l,ws,e,h1,h2,h3,h4,h5⟩=>⟨l,ws,e,h1,h2,fun _=>z l (h3 rfl),h4,h l _ h5 (h3 rfl)⟩
theorem FdsAt.newtag (h:∀ a t,ow a=some (0,t)->H₀ a=none->ow2 a=some (i,t)) (z:∀ a,H₀ a=none->H₀' a=none):∀ {fs:List (Nat×Fd)} {vs:List (Str×V)},FdsAt K H₀ G H ow 0 true fs vs->FdsAt K H₀' G H ow2 i true fs vs
 | _,_,.nil=>.nil
 | _,_,.cons k nk r t=>.cons k nk (FdAt.newtag h z r) (FdsAt.newtag h z t)
theorem InsAt.newtag {fs:List (Nat×Fd)} (h:∀ a t,ow a=some (0,t)->H₀ a=none->ow2 a=some (i,t)) (z:∀ a,H₀ a=none->H₀' a=none) (o:InsAt K H₀ G H ow 0 true C p fs):InsAt K H₀' G H ow2 i true C p fs:=by
 obtain ⟨dx,vs,h1,h2,h3,h4,h5,h6,h7,h8⟩:=o
 exact ⟨dx,vs,h1,h2,h3,h4,fun _=>⟨z p (h5 rfl).1,z dx (h5 rfl).2⟩,h p _ h6 (h5 rfl).1,h dx _ h7 (h5 rfl).2,h8.newtag h z⟩
theorem DcoAt.newtag {fs:List (Nat×Fd)} (h:∀ a t,ow a=some (0,t)->H₀ a=none->ow2 a=some (i,t)) (z:∀ a,H₀ a=none->H₀' a=none) (o:DcoAt K H₀ G H ow 0 true p fs):DcoAt K H₀' G H ow2 i true p fs:=
 let ⟨o,xs,ks,ds,h1,h2,h3,h4,h5,h6,h7⟩:=o
 ⟨o,xs,ks,ds,h1,h2,fun _=>z p (h3 rfl),h p 0 h4 (h3 rfl),h5,h6,h7⟩
theorem ObjAt.newtag {fs:List (Nat×Fd)} (h:∀ a t,ow a=some (0,t)->H₀ a=none->ow2 a=some (i,t)) (z:∀ a,H₀ a=none->H₀' a=none) (o:ObjAt K H₀ G H ow 0 true C p fs):ObjAt K H₀' G H ow2 i true C p fs:=o.imp (fun y=>⟨y.1,y.2.newtag h z⟩) fun y=>⟨y.1,y.2.newtag h z⟩
end
theorem StR.meth {K:PySem.W.Frag} {H₀ G':Hp} {fs:List (Nat×Fd)} {ow':jg} (s:StR K G₀ H₀ G H σ ρ) (e:ρ[i]?=some (some (.obj true C p fs))) (o1:∀ (j:Nat) ds l,ρ[j]?=some (some (.own ds))->σ[j]?=some (some (.ref l))->ow l=some (j,0))
 (o2:∀ (j:Nat) m C p fs,ρ[j]?=some (some (.obj m C p fs))->σ[j]?=some (some (.ref p))/\ObjAt K H₀ G H ow j m C p fs)
 (u:Up G (hid H (lZ i true H₀ G H ow)) G' H') (ob:ObjAt K (hid H (lZ i true H₀ G H ow)) G' H' ow' 0 true C p fs'):StR K G₀ H₀ G' H' σ (ρ.set i (some (.obj true C p fs'))):=by
 have hl:i<ρ.length:=(List.getElem?_eq_some_iff.mp e).1
 have get:∀ (j:Nat) x,(ρ.set i (some (.obj true C p fs')))[j]?=some (some x)->(j=i/\x=.obj true C p fs')\/(j≠i/\ρ[j]?=some (some x)):=fun j x h=>by
  by_cases z:i=j
  ·subst z
   rw [List.getElem?_set_self hl] at h
   exact .inl ⟨rfl,by injection (Option.some.inj h) with q;exact q.symm⟩
  ·rw [List.getElem?_set_ne z] at h
   exact .inr ⟨fun q=>z q.symm,h⟩
 have keep:∀ a o,H a=some o->lZ i true H₀ G H ow a=none->H' a=some o:=fun a o q n=>u.hh a o (by rw [gK n];exact q)
 have out0:∀ a,H₀ a≠none->lZ i true H₀ G H ow a=none:=fun a q=>by
  cases z:lZ i true H₀ G H ow a with
  | none=>rfl
  | some t=>exact absurd ((im z).2.2.2 rfl) q
 have outT:∀ a j t,j≠i->ow a=some (j,t)->lZ i true H₀ G H ow a=none:=fun a j t nj q=>by
  cases z:lZ i true H₀ G H ow a with
  | none=>rfl
  | some t'=>have:=(im z).1;rw [q] at this;cases this;exact absurd rfl nj
 have gn:∀ a o,H a=some o->G a=none->lZ i true H₀ G H ow a=none->G' a=none:=fun a o q g n=>by
  cases z:G' a with
  | none=>rfl
  | some o'=>
   rcases u.fr a o' z with z|z
   ·rw [g] at z;cases z
   ·rw [gK n,q] at z;cases z
 have up:Up G₀ H₀ G' H':=by
  refine ⟨u.sub,s.up.gg.trans u.gg,fun a o q=>keep a o (s.up.hh a o q) (out0 a (by rw [q];simp)),fun a o q=>?_⟩
  rcases u.fr a o q with z|z
  ·exact s.up.fr a o z
  ·by_cases n:lZ i true H₀ G H ow a=none
   ·rw [gK n] at z;exact .inr (s.up.hh.free z)
   ·cases y:lZ i true H₀ G H ow a with
    | none=>exact absurd y n
    | some t=>exact .inr ((im y).2.2.2 rfl)
 have ob':ObSt K H₀ G' H' σ (ρ.set i (some (.obj true C p fs'))):=by
  refine ⟨fun a=>open Classical in if hid H (lZ i true H₀ G H ow) a=none then rO 0 i ow' a else ow a,fun j ds l h1 h2=>?_,fun j m' C' p' fs'' h1=>?_⟩
  ·rcases get j _ h1 with ⟨_,z⟩|⟨nj,f1⟩
   ·cases z
   ·have ol:=o1 j ds l f1 h2
    obtain ⟨l2,vs,q1,q2,_⟩:=s.own j ds f1
    rw [h2] at q1;cases q1
    have n:=outT l j 0 nj ol
    refine (if_neg ?_).trans ol
    rw [gK n,q2];simp
  ·rcases get j _ h1 with ⟨rfl,z⟩|⟨nj,f1⟩
   ·cases z
    refine ⟨(o2 j true C p fs e).1,?_⟩
    refine ob.newtag (fun a t q n=>(if_pos n).trans (mU q)) fun a n=>?_
    by_cases y:lZ j true H₀ G H ow a=none
    ·rw [gK y] at n;exact s.up.hh.free n
    ·cases y':lZ j true H₀ G H ow a with
     | none=>exact absurd y' y
     | some t=>exact (im y').2.2.2 rfl
   ·refine ⟨(o2 j m' C' p' fs'' f1).1,(o2 j m' C' p' fs'' f1).2.keep ⟨fun a t o q1 q=>keep a o q (outT a j t nj q1),u.gg,fun a t o q1 q n=>gn a o q n (outT a j t nj q1),fun a t o q1 q=>?_,fun a o _ _ n=>n⟩⟩
    refine (if_neg ?_).trans q1
    rw [gK (outT a j t nj q1),q];simp
 refine ⟨⟨u.sub,by simp [s.e.len],fun j d h=>?_,ob'.rd⟩,s.sub0,up,fun j ds h=>?_,fun j k ds es l q1 q2 q3 q4=>?_,ob'⟩
 ·rcases get j _ h with ⟨_,z⟩|⟨_,f1⟩
  ·cases z
  ·obtain ⟨v,p1,p2⟩:=s.e.val j d f1
   exact ⟨v,p1,p2.mono u.gg⟩
 ·rcases get j _ h with ⟨_,z⟩|⟨nj,f1⟩
  ·cases z
  ·obtain ⟨l,vs,p1,p2,p3,p4,p5⟩:=s.own j ds f1
   have n:=outT l j 0 nj (o1 j ds l f1 p1)
   exact ⟨l,vs,p1,keep l _ p2 n,gn l _ p2 p3 n,p4,p5.mono u.gg⟩
 ·rcases get j _ q1 with ⟨_,z⟩|⟨nj,f1⟩
  ·cases z
  ·rcases get k _ q2 with ⟨_,z⟩|⟨nk,f2⟩
   ·cases z
   ·exact s.inj j k ds es l f1 f2 q3 q4
end L2
variable {F I_offer_with_order am ai:L2.MF}
namespace L2
open PySem PySem.Spec PyProof.Rows
theorem lH:∀ j,j<fnames.length->∀ k,k<fnames.length->cP j=cP k->j=k:=by decide +kernel
noncomputable def je (k:Nat) (fd:Fd):List (Nat×Fd)->List (Nat×Fd)
 | []=>[(k,fd)]
 | (j,x)::r=>if j=k then (j,fd)::r else (j,x)::je k fd r
theorem kO {k j:Nat} {fd:Fd} (h:j≠k):∀ {fs:List (Nat×Fd)},fs.lookup j=none->(je k fd fs).lookup j=none
 | [],_=>by
  have z:(j==k)=false:=by simp [h]
  simp only [je,List.lookup_cons,z,List.lookup_nil]
 | (a,x)::r,e=>by
  have ha:(j==a)=false:=by
   cases q:j==a with
   | false=>rfl
   | true=>simp only [List.lookup_cons,q] at e;cases e
  have er:r.lookup j=none:=by simpa only [List.lookup_cons,ha] using e
  unfold je
  by_cases z:a=k
  ·rw [if_pos z];simpa only [List.lookup_cons,ha] using er
  ·rw [if_neg z];simp only [List.lookup_cons,ha];exact kO h er
section
variable {K:PySem.W.Frag} {H₀:Hp} {m:Bool}
theorem FdsAt.keys:∀ {fs:List (Nat×Fd)} {vs:List (Str×V)},FdsAt K H₀ G H ow i m fs vs->∀ j fd,fs.lookup j=some fd->j<fnames.length
 | _,_,.nil,j,fd,e=>by simp at e
 | _,_,.cons (k:=a) h nk r t,j,fd,e=>by
  cases q:j==a with
  | true=>rw [beq_iff_eq.mp q];exact h
  | false=>simp only [List.lookup_cons,q] at e;exact FdsAt.keys t j fd e
theorem FdsAt.get:∀ {fs:List (Nat×Fd)} {vs:List (Str×V)} {fd:Fd},FdsAt K H₀ G H ow i m fs vs->fs.lookup k=some fd->∃ v,vs.lookup (cP k)=some v/\FdAt K H₀ G H ow i m k fd v
 | _,_,_,.nil,e=>by simp at e
 | _,_,fd,.cons (k:=a) h nk r t,e=>by
  cases q:k==a with
  | true=>
   have z:=beq_iff_eq.mp q
   subst z
   simp only [List.lookup_cons,q] at e
   cases e
   exact ⟨_,by simp [List.lookup_cons],r⟩
  | false=>
   simp only [List.lookup_cons,q] at e
   obtain ⟨v,e1,e2⟩:=FdsAt.get t e
   have hk:=t.keys k fd e
   have ne:(cP k==cP a)=false:=by
    cases z:cP k==cP a with
    | false=>rfl
    | true=>have:=lH k hk a h (eq_of_beq z);rw [this] at q;simp at q
   exact ⟨v,by simp only [List.lookup_cons,ne];exact e1,e2⟩
theorem FdsAt.put {fd:Fd} (hk:k<fnames.length) (r:FdAt K H₀ G H ow i m k fd v):∀ {fs:List (Nat×Fd)} {vs:List (Str×V)},FdsAt K H₀ G H ow i m fs vs->FdsAt K H₀ G H ow i m (je k fd fs) (mC (cP k) v vs)
 | _,_,.nil=>.cons hk rfl r .nil
 | _,_,.cons (k:=a) h nk r' t=>by
  unfold je mC
  by_cases z:a=k
  ·subst z
   rw [if_pos rfl,if_pos rfl]
   exact .cons h nk r t
  ·rw [if_neg z,if_neg (fun q=>z (lH a h k hk q))]
   exact .cons h (kO (fun q=>z q) nk) r' (FdsAt.put hk r t)
theorem FdsAt.len:∀ {fs:List (Nat×Fd)} {vs:List (Str×V)},FdsAt K H₀ G H ow i m fs vs->vs.length=fs.length
 | _,_,.nil=>rfl
 | _,_,.cons h nk r t=>by simp [FdsAt.len t]
theorem FdsAt.keepL {ow2:jg} (h:∀ l ws,H l=some (.lst ws)->H' l=some (.lst ws)/\ow2 l=ow l):∀ {fs:List (Nat×Fd)} {vs:List (Str×V)},FdsAt K H₀ G H ow i m fs vs->FdsAt K H₀ G H' ow2 i m fs vs
 | _,_,.nil=>.nil
 | _,_,.cons (fd:=fd) hk nk r t=>.cons hk nk (by
   cases fd with
   | val d=>exact r
   | own ds=>
    obtain ⟨l,ws,e,h1,h2,h3,h4,h5⟩:=r
    exact ⟨l,ws,e,(h l ws h1).1,h2,h3,h4,by rw [(h l ws h1).2];exact h5⟩) (FdsAt.keepL h t)
theorem FdsAt.mutL {l:Addr} {us:List V} {es:List D} (re:Reps K G us es) (ol:ow l=some (i,k+1)) (gl:G l=none) (hl:m=true->H₀ l=none):∀ {fs:List (Nat×Fd)} {vs:List (Str×V)} {ds:List D},FdsAt K H₀ G H ow i m fs vs->fs.lookup k=some (.own ds)->vs.lookup (cP k)=some (.ref l)->
  FdsAt K H₀ G (upd H l (.lst us)) ow i m (je k (.own es) fs) vs
 | _,_,_,.nil,e,_=>by simp at e
 | _,_,ds,.cons (k:=a) (fd:=fd) (v:=v) (fs:=fs) (vs:=vs) h nk r t,e,e2=>by
  have stay:∀ {j:Nat} {fd:Fd} {v:V},j≠k->FdAt K H₀ G H ow i m j fd v->FdAt K H₀ G (upd H l (.lst us)) ow i m j fd v:=fun {j fd v} nj q=>by
   cases fd with
   | val d=>exact q
   | own ds=>
    obtain ⟨l',ws,e,h1,h2,h3,h4,h5⟩:=q
    refine ⟨l',ws,e,?_,h2,h3,h4,h5⟩
    rw [aC];exact h1
    intro z;rw [z,ol] at h5;cases h5;exact nj rfl
  have stays:∀ {fs:List (Nat×Fd)} {vs:List (Str×V)},fs.lookup k=none->FdsAt K H₀ G H ow i m fs vs->FdsAt K H₀ G (upd H l (.lst us)) ow i m fs vs:=by
   intro fs vs n q
   induction q with
   | nil=>exact .nil
   | @cons b fd' v' fs' vs' h' nk' r' t' ih=>
    have nb:(k==b)=false:=by
     cases z:k==b with
     | false=>rfl
     | true=>simp only [List.lookup_cons,z] at n;cases n
    have nt:fs'.lookup k=none:=by simpa only [List.lookup_cons,nb] using n
    exact .cons h' nk' (stay (fun z=>by rw [z] at nb;simp at nb) r') (ih nt)
  unfold je
  by_cases z:a=k
  ·subst z
   rw [if_pos rfl]
   have ev:v=.ref l:=by simpa [List.lookup_cons] using e2
   subst ev
   exact .cons h nk ⟨l,us,rfl,aM,gl,hl,re,ol⟩ (stays nk t)
  ·rw [if_neg z]
   have q1:(k==a)=false:=by simp;exact fun q=>z q.symm
   have e':fs.lookup k=some (.own ds):=by simpa only [List.lookup_cons,q1] using e
   have hk:=t.keys k _ e'
   have q2:(cP k==cP a)=false:=by
    cases y:cP k==cP a with
    | false=>rfl
    | true=>exact absurd (lH k hk a h (eq_of_beq y)) fun q=>z q.symm
   have e2':vs.lookup (cP k)=some (.ref l):=by simpa only [List.lookup_cons,q2] using e2
   exact .cons h (kO z nk) (stay z r) (FdsAt.mutL re ol gl hl t e' e2')
end
theorem StR.objTo {K:PySem.W.Frag} {H₀:Hp} {fs:List (Nat×Fd)} {ow2:jg} (s:StR K G₀ H₀ G H σ ρ) (e:ρ[i]?=some (some (.obj true C p fs))) (o1:∀ (j:Nat) ds l,ρ[j]?=some (some (.own ds))->σ[j]?=some (some (.ref l))->ow l=some (j,0))
 (o2:∀ (j:Nat) m C p fs,ρ[j]?=some (some (.obj m C p fs))->σ[j]?=some (some (.ref p))/\ObjAt K H₀ G H ow j m C p fs)
 (hh:∀ a o,H a=some o->(∀ t,ow a≠some (i,t))->H' a=some o) (h0:Same H₀ H') (sub:Same G H') (oo:∀ a j t o,j≠i->ow a=some (j,t)->H a=some o->ow2 a=some (j,t)) (ob:ObjAt K H₀ G H' ow2 i true C p fs'):StR K G₀ H₀ G H' σ (ρ.set i (some (.obj true C p fs'))):=by
 have hl:i<ρ.length:=(List.getElem?_eq_some_iff.mp e).1
 have get:∀ (j:Nat) x,(ρ.set i (some (.obj true C p fs')))[j]?=some (some x)->(j=i/\x=.obj true C p fs')\/(j≠i/\ρ[j]?=some (some x)):=fun j x h=>by
  by_cases z:i=j
  ·subst z
   rw [List.getElem?_set_self hl] at h
   exact .inl ⟨rfl,by injection (Option.some.inj h) with q;exact q.symm⟩
  ·rw [List.getElem?_set_ne z] at h
   exact .inr ⟨fun q=>z q.symm,h⟩
 have ob':ObSt K H₀ G H' σ (ρ.set i (some (.obj true C p fs'))):=by
  refine ⟨ow2,fun j ds l h1 h2=>?_,fun j m' C' p' fs'' h1=>?_⟩
  ·rcases get j _ h1 with ⟨_,z⟩|⟨nj,f1⟩
   ·cases z
   ·obtain ⟨l2,vs,q1,q2,_⟩:=s.own j ds f1
    rw [h2] at q1;cases q1
    exact oo l j 0 _ nj (o1 j ds l f1 h2) q2
  ·rcases get j _ h1 with ⟨rfl,z⟩|⟨nj,f1⟩
   ·cases z;exact ⟨(o2 j true C p fs e).1,ob⟩
   ·exact ⟨(o2 j m' C' p' fs'' f1).1,(o2 j m' C' p' fs'' f1).2.keep ⟨fun a t o q1 q=>hh a o q (fun t' z=>by rw [q1] at z;cases z;exact nj rfl),.refl _,fun a t o _ _ n=>n,fun a t o q1 q=>oo a j t o nj q1 q,fun a o _ _ n=>n⟩⟩
 refine ⟨⟨sub,by simp [s.e.len],fun j d h=>?_,ob'.rd⟩,s.sub0,⟨sub,s.up.gg,h0,s.up.fr⟩,fun j ds h=>?_,fun j k ds es l q1 q2 q3 q4=>?_,ob'⟩
 ·rcases get j _ h with ⟨_,z⟩|⟨_,f1⟩
  ·cases z
  ·exact s.e.val j d f1
 ·rcases get j _ h with ⟨_,z⟩|⟨nj,f1⟩
  ·cases z
  ·obtain ⟨l,vs,p1,p2,p3,p4,p5⟩:=s.own j ds f1
   exact ⟨l,vs,p1,hh l _ p2 (fun t z=>by rw [o1 j ds l f1 p1] at z;cases z;exact nj rfl),p3,p4,p5⟩
 ·rcases get j _ q1 with ⟨_,z⟩|⟨nj,f1⟩
  ·cases z
  ·rcases get k _ q2 with ⟨_,z⟩|⟨nk,f2⟩
   ·cases z
   ·exact s.inj j k ds es l f1 f2 q3 q4
section
variable {K:PySem.W.Frag} {H₀:Hp} {dx:Addr} {fs:List (Nat×Fd)} {vs:List (Str×V)}
theorem StR.fmut (s:StR K G₀ H₀ G H σ ρ) (e:ρ[i]?=some (some (.obj true C p fs))) {es:List D} {us:List V} (ek:fs.lookup k=some (.own ds)) (re:Reps K G us es) {l:Addr} (hp:H p=some (.ins C dx vs)) (el:vs.lookup (cP k)=some (.ref l)) :
  StR K G₀ H₀ G (upd H l (.lst us)) σ (ρ.set i (some (.obj true C p (je k (.own es) fs)))):=by
 obtain ⟨ow,o1,o2⟩:=s.ob
 obtain ⟨hne,dx',vs',h1,h2,h3,h4,h5,h6,h7,h8⟩:=(o2 i true C p fs e).2.insH hp
 rw [hp] at h1;cases h1
 obtain ⟨v,e1,l',ws,ev,g1,g2,g3,g4,g5⟩:=h8.get ek
 rw [el] at e1;cases e1;cases ev
 have np:∀ {a:Addr} {o:HO},H a=some o->(∀ xs,o ≠ .lst xs)->a≠l:=fun q n z=>by rw [z,g1] at q;cases q;exact n _ rfl
 refine s.objTo e o1 o2 (ow2:=ow) (fun a o q n=>?_) (fun a o q=>?_) (fun a o q=>?_) (fun a j t o _ q _=>q) ?_
 ·rw [aC (fun z=>n _ (z ▸ g5))];exact q
 ·rw [aC (fun z=>by rw [z,g3 rfl] at q;cases q)];exact s.up.hh a o q
 ·rw [aC (fun z=>by rw [z,g2] at q;cases q)];exact s.e.sub a o q
 ·refine .inl ⟨hne,dx,vs,?_,?_,h3,h4,h5,h6,h7,h8.mutL re g5 g2 g3 ek el⟩
  ·rw [aC (np hp fun _ z=>by cases z)];exact hp
  ·rw [aC (np h2 fun _ z=>by cases z)];exact h2
theorem StR.fputL (s:StR K G₀ H₀ G H σ ρ) (e:ρ[i]?=some (some (.obj true C p fs))) (hk:k<fnames.length) {l:Addr} {us:List V} (hl:H l=none) (r:Reps K G us ds) (hp:H p=some (.ins C dx vs)) :
  StR K G₀ H₀ G (upd (upd H l (.lst us)) p (.ins C dx (mC (cP k) (.ref l) vs))) σ (ρ.set i (some (.obj true C p (je k (.own ds) fs)))):=by
 obtain ⟨ow,o1,o2⟩:=s.ob
 obtain ⟨hne,dx',vs',h1,h2,h3,h4,h5,h6,h7,h8⟩:=(o2 i true C p fs e).2.insH hp
 rw [hp] at h1;cases h1
 have nl:∀ {a:Addr} {o:HO},H a=some o->a≠l:=fun q z=>by rw [z,hl] at q;cases q
 have gl:G l=none:=s.e.sub.free hl
 have h0l:H₀ l=none:=s.up.hh.free hl
 refine s.objTo e o1 o2 (ow2:=fun a=>if a=l then some (i,k+1) else ow a) (fun a o q n=>?_) (fun a o q=>?_) (fun a o q=>?_) (fun a j t o _ q q2=>(if_neg (nl q2)).trans q) ?_
 ·rw [aC (fun z=>n _ (z ▸ h6)),aC (nl q)];exact q
 ·rw [aC (fun z=>by rw [z,(h5 rfl).1] at q;cases q),aC (nl (s.up.hh a o q))];exact s.up.hh a o q
 ·rw [aC (fun z=>by rw [z,h3] at q;cases q),aC (nl (s.e.sub a o q))];exact s.e.sub a o q
 ·refine .inl ⟨hne,dx,_,aM,?_,h3,h4,h5,(if_neg (nl hp)).trans h6,(if_neg (nl h2)).trans h7,?_⟩
  ·rw [aC (fun z=>by rw [z,hp] at h2;cases h2),aC (nl h2)];exact h2
  ·refine FdsAt.put (fd:=.own ds) hk ⟨l,us,rfl,?_,gl,fun _=>h0l,r,if_pos rfl⟩ (h8.keepL fun l' ws q=>⟨?_,if_neg (nl q)⟩)
   ·rw [aC (fun z=>nl hp z.symm),aM]
   ·rw [aC (fun z=>by rw [z,hp] at q;cases q),aC (nl q)];exact q
end
noncomputable def oY (C:Addr) (ρ:Ev) (i:Nat):R (List (Nat×Fd)):=match ρ[i]? with
 | some (some (.obj _ C' _ fs))=>if C'=C then .ok fs else .no
 | _=>.no
noncomputable def qW (C:Addr) (ρ:Ev) (i:Nat):R (Addr×List (Nat×Fd)):=match ρ[i]? with
 | some (some (.obj true C' p fs))=>if C'=C then .ok (p,fs) else .no
 | _=>.no
noncomputable def fldL (fs:List (Nat×Fd)) (k:Nat):R (List D):=match fs.lookup k with
 | some (.own ds)=>.ok ds
 | _=>.no
noncomputable def tM (C:Addr) (i k:Nat) (gb:Ev->R D):Ev->R D:=fun ρ=>oY C ρ i>>=fun fs=>fldL fs k>>=fun ds=>gb ρ>>=fun d=>ofO (ixD (.lst false ds) d)
noncomputable def nh (C:Addr) (i k:Nat):Ev->R D:=fun ρ=>oY C ρ i>>=fun fs=>fldL fs k>>=fun ds=>.ok (.int ds.length)
noncomputable def Dv (C:Addr) (i k:Nat) (ga:Ev->R D):Ev->O:=fun ρ=>(qW C ρ i).out ρ fun o=>(fldL o.2 k).out ρ fun ds=>(ga ρ).out ρ fun d=>if ds.length<sizeLine then .nx (ρ.set i (some (.obj true C o.1 (je k (.own (ds++[d])) o.2)))) else .no
noncomputable def xz (C:Addr) (i k:Nat) (gl:Ev->R (List D)):Ev->O:=fun ρ=>(qW C ρ i).out ρ fun o=>(gl ρ).out ρ fun ds=>if o.2.length<900 then .nx (ρ.set i (some (.obj true C o.1 (je k (.own ds) o.2)))) else .no
noncomputable def El (ga:Ev->R D):Ev->O:=fun ρ=>(ga ρ).out ρ fun d=>.re d ρ
structure CF (K:PySem.W.Frag) (C:Addr) (ks:List Nat):Prop where
 cl:Cls K C
 ne:C≠DC
 na:∀ k∈ks,k<fnames.length/\NoAttr K C (cP k)
theorem sv {α:Type} {k:List (Nat×Fd)->R α} {P:α->Prop} {E:Addr->Prop} (h:(oY C ρ i>>=k).post P E):∃ m p fs,ρ[i]?=some (some (.obj m C p fs))/\(k fs).post P E:=by
 unfold oY at h
 split at h
 ·rename_i m C' p fs e
  by_cases z:C'=C
  ·subst z;rw [if_pos rfl] at h;exact ⟨m,p,fs,e,h⟩
  ·rw [if_neg z] at h;exact h.elim
 ·exact h.elim
theorem wP {fs:List (Nat×Fd)} {n:Nat} {α:Type} {k:List D->R α} {P:α->Prop} {E:Addr->Prop} (h:(fldL fs n>>=k).post P E):∃ ds,fs.lookup n=some (.own ds)/\(k ds).post P E:=by
 unfold fldL at h
 split at h
 ·rename_i ds e;exact ⟨ds,e,h⟩
 ·exact h.elim
theorem oN {H₀:Hp} {D:Ends} {k:Addr×List (Nat×Fd)->O} (h:jj X G₀ H₀ D ((qW C ρ i).out ρ k)):∃ p fs,ρ[i]?=some (some (.obj true C p fs))/\jj X G₀ H₀ D (k (p,fs)):=by
 unfold qW at h
 split at h
 ·rename_i C' p fs e
  by_cases z:C'=C
  ·subst z;rw [if_pos rfl] at h;exact ⟨p,fs,e,h⟩
  ·rw [if_neg z] at h;exact h.elim
 ·exact h.elim
theorem AZ {H₀:Hp} {D:Ends} {fs:List (Nat×Fd)} {n:Nat} {k:List L2.D->O} (h:jj X G₀ H₀ D ((fldL fs n).out ρ k)):∃ ds,fs.lookup n=some (.own ds)/\jj X G₀ H₀ D (k ds):=by
 unfold fldL at h
 split at h
 ·rename_i ds e;exact ⟨ds,e,h⟩
 ·exact h.elim
section
variable {e b:Expr} {ga:Ev->R D} {f:Str} {p1 p2 p3 ap cp:Pos}
theorem StE.fldL {K:PySem.W.Frag} {m:Bool} {fs:List (Nat×Fd)} (st:StE K G H σ ρ) (e:ρ[i]?=some (some (.obj m C p fs))) (ek:fs.lookup k=some (.own ds)) :
  ∃ dx vs l ws,σ[i]?=some (some (.ref p))/\H p=some (.ins C dx vs)/\vs.lookup (cP k)=some (.ref l)/\H l=some (.lst ws)/\Reps K G ws ds:=by
 obtain ⟨es,ow,ob⟩:=st.obs i m C p fs e
 obtain ⟨dx,vs,h1,h2,h3,h4,h5,h6,h7,h8⟩:=ob.insL ek
 obtain ⟨v,e1,l,ws,rfl,g1,g2,g3,g4,g5⟩:=h8.get ek
 exact ⟨dx,vs,l,ws,es,h1,e1,g1,g4⟩
theorem wL (i k:Nat) (c:CF X.K C ks) (hk:k∈ks) (hb:PF X b gb) (hi:X.N[i]?=some x:=by rfl) (hv:Vis X.env.scope x:=by first|exact Or.inl rfl|exact Or.inr (Or.inl rfl)|exact Or.inr (Or.inr rfl)) (hf:f=cP k:=by rfl)
 (hd:(x==("__debug__":Str))=false:=by decide) (hcd:(x==("__classdict__":Str))=false:=by decide) (hba:attributeBase (.Name x p1) f X.env (eval (.Name x p1) X.env)=eval (.Name x p1) X.env:=by rfl) (hs:ni b:=by exact fun _ _=>rfl) :
  PF X (.Subscript (.Attribute (.Name x p1) f p2) b pos) (tM C i k gb):=fun pins s σ H Q I h=>by
 subst hf
 refine Ek ix_list (wO (dh hi hv hd hcd) hba) hb hs pins s σ H Q I ?_
 obtain ⟨G,ρ,st,h⟩:=h
 obtain ⟨m,p,fs,e1,h⟩:=sv h
 obtain ⟨ds,e2,h⟩:=wP h
 obtain ⟨dx,vs,l,ws,h1,h2,h3,h4,h5⟩:=st.fldL e1 e2
 refine ⟨.ref p,h1,p,C,dx,vs,.ref l,rfl,h2,c.cl,(c.na k hk).2,h3,?_⟩
 refine tG.intro st h fun d v G1 H1 u1 st1 r1 h'=>?_
 obtain ⟨d',e3,q⟩:=ofO.ok h'
 cases d with
 | int j=>
  have e3:atI ds j=some d':=e3
  obtain ⟨v',e4,r4⟩:=(h5.mono u1.gg).atI e3
  exact ⟨l,ws,j,v',rfl,r1.int_inv,.of (u1.hh _ _ h4),e4,q v' G1 H1 (.refl st1.sub) r4⟩
 | _=>cases e3
theorem uC (i k:Nat) (c:CF X.K C ks) (hk:k∈ks) (hg:Gl X "len") (hm:X.mg "len"=none) (hi:X.N[i]?=some x:=by rfl) (hv:Vis X.env.scope x:=by first|exact Or.inl rfl|exact Or.inr (Or.inl rfl)|exact Or.inr (Or.inr rfl)) (hf:f=cP k:=by rfl)
 (hd:(x==("__debug__":Str))=false:=by decide) (hcd:(x==("__classdict__":Str))=false:=by decide) (hba:attributeBase (.Name x p1) f X.env (eval (.Name x p1) X.env)=eval (.Name x p1) X.env:=by rfl)
 (he:starEach [.Attribute (.Name x p1) f p2] X.env=(false,eval (.Attribute (.Name x p1) f p2) X.env)::starEach [] X.env:=by rfl) :
  PF X (.Call (.Name "len" p3) [.Attribute (.Name x p1) f p2] [] pos) (nh C i k):=fun pins s σ H Q I h=>by
 subst hf
 refine nD qG hg hm PySem.boot_len (dJ (wO (dh hi hv hd hcd) hba) jb he) (by decide) (by decide) he rfl pins s σ H Q I ?_
 obtain ⟨G,ρ,st,h⟩:=h
 obtain ⟨m,p,fs,e1,h⟩:=sv h
 obtain ⟨ds,e2,h⟩:=wP h
 obtain ⟨dx,vs,l,ws,h1,h2,h3,h4,h5⟩:=st.fldL e1 e2
 refine ⟨.ref p,h1,p,C,dx,vs,.ref l,rfl,h2,c.cl,(c.na k hk).2,h3,l,ws,rfl,.inl (.of h4),?_⟩
 rw [h5.length]
 exact h _ G H (.refl st.sub) (.int _)
theorem F0 (i k:Nat) (c:CF X.K C ks) (hk:k∈ks) (he:PF X e ga) (hi:X.N[i]?=some x:=by rfl) (hv:Vis X.env.scope x:=by first|exact Or.inl rfl|exact Or.inr (Or.inl rfl)|exact Or.inr (Or.inr rfl)) (hf:f=cP k:=by rfl)
 (hd:(x==("__debug__":Str))=false:=by decide) (hcd:(x==("__classdict__":Str))=false:=by decide) (hba:attributeBase (.Name x p1) f X.env (eval (.Name x p1) X.env)=eval (.Name x p1) X.env:=by rfl)
 (hs1:starEach [e] X.env=(false,eval e X.env)::starEach [] X.env:=by rfl)
 (hbase:attributeBase (.Attribute (.Name x p1) f p2) "append" X.env (eval (.Attribute (.Name x p1) f p2) X.env)=eval (.Attribute (.Name x p1) f p2) X.env:=by rfl)
 (hfew:((backTo cp (starEach [e] X.env)).all (fun x=>!x.1) && (backToKw cp (keywordEach [] X.env)).all (fun x=>x.1.isSome)
 && decide ([e].length+([]:List Keyword).length+(if ([]:List Keyword).isEmpty then 0 else 1)<30))=true:=by rfl)
 (hline:(ap.endLine==cp.line)=true:=by rfl)
 (hs:swapsWith (.Call (.Attribute (.Attribute (.Name x p1) f p2) "append" ap) [e] [] cp) none pos.line X.env=pure false:=by rfl) :
  PSF X (.Expr (.Call (.Attribute (.Attribute (.Name x p1) f p2) "append" ap) [e] [] cp) pos) (Dv C i k ga):=fun G₀ H₀ pins s σ H D I h=>by
 subst hf
 refine jx (Bp PySem.F.plainAttrs_list PySem.F.slot_list_append PySem.F.type_list_append lQ (wO (dh hi hv hd hcd) hba) (dJ he jb hs1) hbase hfew hline hs1 rfl) hs pins s σ H D I ?_
 obtain ⟨G,ρ,sr,h⟩:=h
 obtain ⟨p,fs,e1,h⟩:=oN h
 obtain ⟨ds,e2,h⟩:=AZ h
 obtain ⟨dx,vs,l,ws,h1,h2,h3,h4,h5⟩:=sr.e.fldL e1 e2
 refine ⟨.ref p,h1,p,C,dx,vs,.ref l,rfl,h2,c.cl,(c.na k hk).2,h3,.inl ⟨rfl,ws,.of h4⟩,G,ρ,sr.e,?_⟩
 cases q:ga ρ with
 | ok d=>
  rw [q] at h
  simp only [R.out] at h
  intro v G' H' u r
  by_cases hz:ds.length<sizeLine
  ·rw [if_pos hz] at h
   refine ⟨l,ws,v,rfl,rfl,u.hh _ _ h4,by rw [h5.length];exact hz,h _ G' _ ?_⟩
   exact (sr.ups u).fmut e1 e2 ((h5.mono u.gg).append (.cons r .nil)) (u.hh _ _ h2) h3
  ·rw [if_neg hz] at h;exact h.elim
 | ex C=>rw [q] at h;exact Exx.of sr h
 | no=>rw [q] at h;exact h
theorem xi (i k:Nat) (c:CF X.K C ks) (hk:k∈ks) (he:PFL X e gl) (hi:X.N[i]?=some x:=by rfl) (hv:Vis X.env.scope x:=by first|exact Or.inl rfl|exact Or.inr (Or.inl rfl)|exact Or.inr (Or.inr rfl)) (hf:f=cP k:=by rfl)
 (hd:(x==("__debug__":Str))=false:=by decide) (hcd:(x==("__classdict__":Str))=false:=by decide) (hs:swapsWith e (some (.Attribute (.Name x p1) f p2)) pos.line X.env=pure false:=by rfl) :
  PSF X (.Assign [.Attribute (.Name x p1) f p2] e pos) (xz C i k gl):=fun G₀ H₀ pins s σ H D I h=>by
 subst hf
 refine EX (dh hi hv hd hcd) he hs pins s σ H D I ?_
 obtain ⟨G,ρ,sr,h⟩:=h
 obtain ⟨p,fs,e1,h⟩:=oN h
 refine ⟨G,ρ,sr.e,?_⟩
 cases q:gl ρ with
 | ok ds=>
  rw [q] at h
  simp only [R.out] at h
  intro l us G' H' u hl r
  obtain ⟨h1,ow,ob0⟩:=sr.e.obs i true C p fs e1
  obtain ⟨dx,vs,g1,g2,g3,g4,g5,g6,g7,g8⟩:=ob0.ins c.ne
  by_cases hz:fs.length<900
  ·rw [if_pos hz] at h
   have hp:=u.hh _ _ g1
   refine ⟨.ref p,h1,p,C,dx,vs,rfl,?_,c.cl,(c.na k hk).2,by rw [g8.len];omega,h _ G' _ ((sr.ups u).fputL e1 (c.na k hk).1 hl r hp)⟩
   rw [aC (fun z=>by rw [z,hl] at hp;cases hp)];exact hp
  ·rw [if_neg hz] at h;exact h.elim
 | ex C=>rw [q] at h;exact Exx.of sr h
 | no=>rw [q] at h;exact h
theorem GC (he:PF X e ga):PSF X (.Return (some e) pos) (El ga):=fun G₀ H₀ pins s σ H D I h=>by
 refine yu he pins s σ H D I ?_
 obtain ⟨G,ρ,sr,h⟩:=h
 have h:jj X G₀ H₀ D ((ga ρ).out ρ fun d=>.re d ρ):=h
 refine ⟨G,ρ,sr.e,?_⟩
 cases q:ga ρ with
 | ok d=>rw [q] at h;exact fun v G' H' u r=>h v σ G' H' (sr.ups u) r
 | ex C=>rw [q] at h;exact Exx.of sr h
 | no=>rw [q] at h;exact h
end
structure MCallee (P:Program) (w:World) (K:PySem.W.Frag) (mg:Str->Option Value) (base:Heap) (C:Addr) (mn:Str) (k n:Nat) (F:MF):Prop where
 ex:∃ f fd ps,FnM P w K mg base k f fd ps C F/\Meth K C mn f/\Binds K fd ps []/\ps.length=n+1
theorem MCallee.mono {w:World} {K:PySem.W.Frag} {mg:Str->Option Value} {base:Heap} {mn:Str} {n:Nat} (c:MCallee P w K mg base C mn k n F) (k':Nat) (h:k<=k':=by decide):MCallee P w K mg base C mn k' n F:=by
 obtain ⟨f,fd,ps,M,hm,hb,e⟩:=c.ex
 exact ⟨f,fd,ps,{ M with run:=fun A outer s H args us vs Q E hr=>M.run A outer s H args us vs Q E (hr.mono h) },hm,hb,e⟩
theorem FdsAt.none {K:PySem.W.Frag} {H₀:Hp} {m:Bool} {mn:Str} (hn:∀ k,k<fnames.length->(mn==cP k)=false):∀ {fs:List (Nat×Fd)} {vs:List (Str×V)},FdsAt K H₀ G H ow i m fs vs->vs.lookup mn=Option.none
 | _,_,.nil=>rfl
 | _,_,.cons (k:=a) h nk r t=>by simp only [List.lookup_cons,hn a h];exact FdsAt.none hn t
section
variable {n:Nat} {fs:List (Nat×Fd)} {Q:VK}
theorem mV (M:FnM X.prog X.w X.K X.mg X.base k f fd ps C F) (hr:Room k X.A) (hb:Binds X.K fd ps []) (hl:ps.length=n+1) (I:Inv X pins σ H s) (r:Vals vs us) (rp:Reps X.K G vs ds) (hn:ds.length=n) (sub:Same G H) (og:∀ a t,ow a=some t->G a=none)
 (ob:ObjAt X.K (fun _=>none) G H ow 0 true C p fs) (h:match F fs ds with
 | .ok d fs'=>∀ v G' H' ow',Up G (hid H ow) G' H'->ObjAt X.K (hid H ow) G' H' ow' 0 true C p fs'->Rep X.K G' v d->Q v H'
 | .rd d=>∀ v G' H',Up G H G' H'->Rep X.K G' v d->Q v H'
 | .ex C'=>Exx X σ G H C'
 | .no=>False):wpAny (model X.prog X.w) X.A (call (.ref f) (.ref p::us)) (EP X pins σ Q) X.xe s:=by
 have hvl:(V.ref p::vs).length=ps.length:=by rw [hl,List.length_cons,rp.length,hn]
 have hul:(Value.ref p::us++[]).length=ps.length:=by rw [List.append_nil,List.length_cons,<- r.length,<- List.length_cons (a:=V.ref p)];exact hvl
 have hbb:=hb s (.ref p::us) I.kIn hul
 rw [List.append_nil] at hbb
 refine wpAny_call (codeAny_mono (M.run X.A X.stack s H ⟨.ref p::us,[]⟩ (.ref p::us) (.ref p::vs) Q (fun c _ H'=>∃ C G',c=.ref C/\Up G H G' H'/\Exx X σ G H C) hr I.env0 hbb (.cons rfl r) ⟨hvl,G,p,vs,ds,fs,ow,rfl,rp,sub,og,ob,?_⟩) fun r' s' hq=>?_)
 ·cases q:F fs ds with
  | ok d fs'=>rw [q] at h;exact h
  | rd d=>rw [q] at h;exact h
  | ex C'=>rw [q] at h;exact fun G' H' u=>⟨C',G',rfl,u,h⟩
  | no=>rw [q] at h;exact h.elim
 ·cases r' with
  | error e'=>
   obtain ⟨a,C,H',rfl,fl,C',G',ec,u,q⟩:=hq
   cases ec
   exact q _ _ ⟨G,H,.refl sub,pins,s,a,rfl,I,.inr (.inl ⟨G',H',fl,u⟩)⟩
  | ok fl=>
   cases fl with
   | ret u=>exact I.after hq
   | _=>exact False.elim hq
end
noncomputable def RM.read:RM->R D
 | .rd d=>.ok d
 | .ex C=>.ex C
 | _=>.no
noncomputable def EY (C:Addr) (i n:Nat) (F:MF) (gl:Ev->R (List D)):Ev->R D:=fun ρ=>oY C ρ i>>=fun fs=>gl ρ>>=fun ds=>if ds.length=n then (F fs ds).read else .no
noncomputable def dF (C:Addr) (i:Nat) (F:MF):Ev->R D:=fun ρ=>oY C ρ i>>=fun fs=>(F fs []).read
noncomputable def RM.out (r:RM) (C p:Addr) (i:Nat) (ρ:Ev):O:=match r with
 | .ok _ fs'=>.nx (ρ.set i (some (.obj true C p fs')))
 | .rd _=>.nx ρ
 | .ex E=>.ex E ρ
 | .no=>.no
noncomputable def vo (C:Addr) (i n:Nat) (F:MF) (gl:Ev->R (List D)):Ev->O:=fun ρ=>(qW C ρ i).out ρ fun o=>(gl ρ).out ρ fun ds=>if ds.length=n then (F o.2 ds).out C o.1 i ρ else .no
noncomputable def GB (C:Addr) (i:Nat) (F:MF):Ev->O:=fun ρ=>(qW C ρ i).out ρ fun o=>(F o.2 []).out C o.1 i ρ
section
variable {e:Expr} {mn:Str} {n:Nat} {p1 ap ep:Pos}
theorem fC {pl:Sem Bool} (i:Nat) (c:CF X.K C ks) (m:MCallee X.prog X.w X.K X.mg X.base C mn k 0 F) (hr:Room k X.A) (hi:X.N[i]?=some x:=by rfl) (hv:Vis X.env.scope x:=by first|exact Or.inl rfl|exact Or.inr (Or.inl rfl)|exact Or.inr (Or.inr rfl))
 (hd:(x==("__debug__":Str))=false:=by decide) (hcd:(x==("__classdict__":Str))=false:=by decide) (hmn:∀ k,k<fnames.length->(mn==cP k)=false:=by decide)
 (ht:eval (.Call (.Attribute (.Name x p1) mn ap) [] [] pos) X.env=(do
 let ov <- eval (.Name x p1) X.env
 standAt ap.atName
 let (f,first) <- holding [ov] (getMethod ov mn pl)
 callWith pos f first (backTo pos (starEach [] X.env)) (backToKw pos (keywordEach [] X.env))):=by rfl) :
  PF X (.Call (.Attribute (.Name x p1) mn ap) [] [] pos) (dF C i F):=fun pins s σ H Q I h=>by
 obtain ⟨f,fd,ps,M,hm,hb,hl⟩:=m.ex
 obtain ⟨G,ρ,st,h⟩:=h
 obtain ⟨mm,p,fs,e1,h⟩:=sv h
 obtain ⟨h1,ow1,ob1⟩:=st.obs i mm C p fs e1
 have v:PE X (.Name x p1) (DT i):=dh hi hv hd hcd
 refine PySem.W.methodCall_KW (pl:=pl) (thn (v pins s σ H (fun u H'=>u=.ref p/\H'=H) I ⟨_,h1,rfl,rfl⟩) fun u s1 ⟨v',H',I',rv,ev,eh⟩=>?_) ht
 subst ev eh
 obtain rfl:u=Value.ref p:=rv
 obtain ⟨dx,vs,g1,g2,g3,g4,g5,g6,g7,g8⟩:=ob1.ins c.ne
 refine jl I' g1 c.cl hm (g8.none hmn) ?_
 refine PySem.W.callWith_K0 (first:=[.ref p]) I'.kIn hm.kp (mV (us:=[]) M hr hb hl I' .nil .nil rfl st.sub (fun a t q=>(im q).2.2.1) ob1.cut ?_)
 cases q:F fs [] with
 | ok d fs'=>rw [q] at h;exact h.elim
 | rd d=>rw [q] at h;exact h
 | ex C'=>rw [q] at h;exact h
 | no=>rw [q] at h;exact h.elim
theorem yP {pl:Sem Bool} (i:Nat) (c:CF X.K C ks) (m:MCallee X.prog X.w X.K X.mg X.base C mn k n F) (hr:Room k X.A) (ha:PFA X (e::es) gl) (hi:X.N[i]?=some x:=by rfl) (hv:Vis X.env.scope x:=by first|exact Or.inl rfl|exact Or.inr (Or.inl rfl)|exact Or.inr (Or.inr rfl))
 (hd:(x==("__debug__":Str))=false:=by decide) (hcd:(x==("__classdict__":Str))=false:=by decide) (hmn:∀ k,k<fnames.length->(mn==cP k)=false:=by decide)
 (hst:starEach (e::es) X.env=(false,eval e X.env)::starEach es X.env:=by rfl) (hpl:(backTo pos (starEach es X.env)).any (·.1)=false:=by rfl)
 (hs:swapsWith (.Call (.Attribute (.Name x p1) mn ap) (e::es) [] pos) none ep.line X.env=pure false:=by rfl)
 (ht:eval (.Call (.Attribute (.Name x p1) mn ap) (e::es) [] pos) X.env=(do
 let ov <- eval (.Name x p1) X.env
 standAt ap.atName
 let (f,first) <- holding [ov] (getMethod ov mn pl)
 callWith pos f first (backTo pos (starEach (e::es) X.env)) (backToKw pos (keywordEach [] X.env))):=by rfl) :
  PSF X (.Expr (.Call (.Attribute (.Name x p1) mn ap) (e::es) [] pos) ep) (vo C i n F gl):=fun G₀ H₀ pins s σ H D I h=>by
 obtain ⟨f,fd,ps,M,hm,hb,hl⟩:=m.ex
 obtain ⟨G,ρ,sr,h⟩:=h
 obtain ⟨p,fs,e1,h⟩:=oN h
 obtain ⟨h1,_,_⟩:=sr.e.obs i true C p fs e1
 have v:PE X (.Name x p1) (DT i):=dh hi hv hd hcd
 have pe:PE X (.Call (.Attribute (.Name x p1) mn ap) (e::es) [] pos) (fun σ' H' Q=>σ'=σ/\H'=H/\∀ v H2,D.nx σ H2->Q v H2):=by
  rintro pn2 sh2 σ' H' Q J ⟨rfl,rfl,hQ⟩
  refine PySem.W.methodCall_KW (pl:=pl) (thn (v pn2 sh2 σ' H' (fun u H2=>u=.ref p/\H2=H') J ⟨_,h1,rfl,rfl⟩) fun u s1 ⟨v',H2,I',rv,ev,eh⟩=>?_) ht
  subst ev eh
  obtain rfl:u=Value.ref p:=rv
  obtain ⟨_,ow,ob0⟩:=sr.e.obs i true C p fs e1
  obtain ⟨dx,vs,g1,g2,g3,g4,g5,g6,g7,g8⟩:=ob0.ins c.ne
  refine jl I' g1 c.cl hm (g8.none hmn) ?_
  have t:tAF X gl σ' H2 (fun vs H1=>∃ G1 ds,Up G H2 G1 H1/\Reps X.K G1 vs ds/\ds.length=n/\jj X G₀ H₀ D ((F fs ds).out C p i ρ)):=by
   refine ⟨G,ρ,sr.e,?_⟩
   cases q:gl ρ with
   | ok ds=>
    rw [q] at h
    simp only [R.out] at h
    intro vs G1 H1 u r
    by_cases hz:ds.length=n
    ·rw [if_pos hz] at h;exact ⟨G1,ds,u,r,hz,h⟩
    ·rw [if_neg hz] at h;exact h.elim
   | ex C=>rw [q] at h;exact Exx.of sr h
   | no=>rw [q] at h;exact h
  refine PySem.W.callWith_K (first:=[.ref p]) (h₀:=X.base) J.ok.mod.kin hm.kp (thn (ha pos pn2 s1 σ' H2 _ I' t) fun us s2 q=>⟨?_,?_⟩) hst hpl
  ·obtain ⟨vs,H1,I1,r,_⟩:=q;exact I1.kIn
  obtain ⟨vs,H1,I1,r,G1,ds,u1,rp,hz,h2⟩:=q
  have sr1:=sr.ups u1
  obtain ⟨ow1,o1,o2⟩:=sr1.ob
  refine mV M hr hb hl I1 r rp hz sr1.e.sub (fun a t q=>(im q).2.2.1) (o2 i true C p fs e1).2.cut ?_
  cases q:F fs ds with
  | ok d fs'=>rw [q] at h2;exact fun v G' H' ow' u ob _=>hQ v H' (h2 _ G' H' (sr1.meth e1 o1 o2 u ob))
  | rd d=>rw [q] at h2;exact fun v G' H' u _=>hQ v H' (h2 _ G' H' (sr1.ups u))
  | ex C'=>rw [q] at h2;exact Exx.of sr1 h2
  | no=>rw [q] at h2;exact h2.elim
 exact jx pe hs pins s σ H D I ⟨rfl,rfl,fun v H2 q=>q⟩
end
structure MkC (P:Program) (w:World) (K:PySem.W.Frag) (mg:Str->Option Value) (base:Heap) (C:Addr) (cn:Str) (k n:Nat) (F:MF):Prop where
 ex:∃ f fd ps,FnM P w K mg base k f fd ps C F/\Mk K C f/\mg cn=some (.ref C)/\Binds K fd ps []/\ps.length=n+1
 ne:C≠DC
section
variable {n:Nat} {Q:VK}
theorem zV (hC:C≠DC) (M:Mk X.K C f) (Fi:FnM X.prog X.w X.K X.mg X.base k f fd ps C F) (hr:Room (k+1) X.A) (hb:Binds X.K fd ps []) (hl:ps.length=n+1) (I:Inv X pins σ H s) (r:Vals vs us) (rp:Reps X.K G vs ds) (hn:ds.length=n) (sub:Same G H)
 (h:match F [] ds with
 | .ok d fs'=>d=.non/\∀ x G' H' ow',Up G H G' H'->ObjAt X.K H G' H' ow' 0 true C x fs'->Q (.ref x) H'
 | .ex C'=>Exx X σ G H C'
 | _=>False):wpAny (model X.prog X.w) X.A (call (.ref C) us) (EP X pins σ Q) X.xe s:=by
 have I2:=Inv.made (C:=C) I
 generalize hx:s.heap.objs.size+1=x at I2
 generalize hd:s.heap.objs.size=dx at I2
 have fx:H x=none:=I.hok.fresh (by rw [<- hx];exact Nat.le_succ _)
 have fd':H dx=none:=I.hok.fresh (by rw [<- hd];exact Nat.le_refl _)
 have ne:dx≠x:=by rw [<- hx,<- hd];exact Nat.ne_of_lt (Nat.lt_succ_self _)
 have gx:G x=none:=sub.free fx
 have gd:G dx=none:=sub.free fd'
 have hh:Same H (upd (upd H dx (.own x)) x (.ins C dx [])):=fun a o e=>by rw [aC (aJ e fx),aC (aJ e fd')];exact e
 have sub2:Same G (upd (upd H dx (.own x)) x (.ins C dx [])):=sub.trans hh
 have up2:Up G H G (upd (upd H dx (.own x)) x (.ins C dx [])):=⟨sub2,.refl _,hh,fun _ _ e=>.inl e⟩
 let ow:jg:=fun a=>if a=x\/a=dx then some (0,0) else none
 have og:∀ a t,ow a=some t->G a=none:=fun a t q=>by
  by_cases z:a=x\/a=dx
  ·rcases z with z|z
   ·rw [z];exact gx
   ·rw [z];exact gd
  ·have:ow a=none:=if_neg z
   rw [this] at q;cases q
 have ob:ObjAt X.K (fun _=>none) G (upd (upd H dx (.own x)) x (.ins C dx [])) ow 0 true C x []:=
  .inl ⟨hC,dx,[],aM,by rw [aC ne,aM],gx,gd,fun _=>⟨rfl,rfl⟩,if_pos (.inl rfl),if_pos (.inr rfl),.nil⟩
 have eh:hid (upd (upd H dx (.own x)) x (.ins C dx [])) ow=H:=by
  funext a
  by_cases z:a=x\/a=dx
  ·rw [iZ (t:=(0,0)) (if_pos z)]
   rcases z with z|z
   ·rw [z];exact fx.symm
   ·rw [z];exact fd'.symm
  ·rw [gK (if_neg z),aC (fun q=>z (.inl q)),aC (fun q=>z (.inr q))]
 have hvl:(V.ref x::vs).length=ps.length:=by rw [hl,List.length_cons,rp.length,hn]
 have hul:(Value.ref x::us++[]).length=ps.length:=by rw [List.append_nil,List.length_cons,<- r.length,<- List.length_cons (a:=V.ref x)];exact hvl
 refine wpAny_call (Ai (f:=f) I.kIn M.makes M.init (beq_iff_eq.mp M.fn) ?_)
 rw [hx,hd]
 have hbb:=hb _ (.ref x::us) I2.kIn hul
 rw [List.append_nil] at hbb
 refine codeAny_mono (Fi.run _ X.stack _ _ ⟨Value.ref x::us,[]⟩ (Value.ref x::us) (V.ref x::vs) (fun v H2=>v=.non/\Q (.ref x) H2) (fun c _ H'=>∃ C' G',c=.ref C'/\Up G (upd (upd H dx (.own x)) x (.ins C dx [])) G' H'/\Exx X σ G H C') (hr.make C us [])
  (I2.env0.make C us []) hbb (.cons rfl r) ⟨hvl,G,x,vs,ds,[],ow,rfl,rp,sub2,og,ob,?_⟩) fun r' s' hq=>?_
 ·cases q:F [] ds with
  | ok d fs'=>
   rw [q] at h
   intro v G' H' ow' u o rv
   rw [eh] at u o
   obtain ⟨rfl,h⟩:=h
   exact ⟨rv.non_inv,h x G' H' ow' u o⟩
  | rd d=>rw [q] at h;exact h.elim
  | ex C'=>rw [q] at h;exact fun G' H' u=>⟨C',G',rfl,u,h⟩
  | no=>rw [q] at h;exact h.elim
 ·cases r' with
  | error e'=>
   obtain ⟨a,C',H',rfl,fl,C'',G',ec,u,q⟩:=hq
   cases ec
   exact q _ _ ⟨G,_,up2,pins,_,a,rfl,I2,.inr (.inl ⟨G',H',fl,u⟩)⟩
  | ok fl=>
   cases fl with
   | ret u=>
    obtain ⟨v,H',I3,rv,ev,q3⟩:=I2.after hq
    subst ev
    exact ⟨rv,⟨V.ref x,H',I3,rfl,q3⟩⟩
   | _=>exact False.elim hq
end
noncomputable def wY (F:MF) (n:Nat) (ds:List D):R (List (Nat×Fd)):=if ds.length=n then (match F [] ds with
 | .ok .non fs'=>.ok fs'
 | .ex C=>.ex C
 | _=>.no) else .no
noncomputable def Ld (X:Cx) (C:Addr) (F:MF) (n:Nat) (gl:Ev->R (List D)):TE:=fun σ H Q=>∃ G ρ,StE X.K G H σ ρ/\(gl ρ>>=wY F n).post (fun fs'=>∀ x G' H' ow',Up G H G' H'->ObjAt X.K H G' H' ow' 0 true C x fs'->Q (.ref x) H') (Exx X σ G H)
section
variable {e:Expr} {cn:Str} {n:Nat} {p:Pos}
theorem Fo (c:MkC X.prog X.w X.K X.mg X.base C cn k n F) (hr:Room (k+1) X.A) (ha:PFA X (e::es) gl) (hg:Gl X cn:=by rfl) (hdb:(cn==("__debug__":Str))=false:=by decide)
 (he:starEach (e::es) X.env=(false,eval e X.env)::starEach es X.env:=by rfl) (hpl:(backTo pos (starEach es X.env)).any (·.1)=false:=by rfl):PE X (.Call (.Name cn p) (e::es) [] pos) (Ld X C F n gl):=by
 intro pins s σ H Q I h
 obtain ⟨f,fd,ps,M,mk,hm,hb,hl⟩:=c.ex
 obtain ⟨G,ρ,st,h⟩:=h
 refine wpAny_Call_Name_kw (lM I hg hm ?_ hdb)
 have t:tAF X gl σ H (fun vs H1=>∃ G1 ds,Up G H G1 H1/\Reps X.K G1 vs ds/\(wY F n ds).post (fun fs'=>∀ x G' H' ow',Up G H G' H'->ObjAt X.K H G' H' ow' 0 true C x fs'->Q (.ref x) H') (Exx X σ G H)):=by
  refine ⟨G,ρ,st,?_⟩
  cases q:gl ρ with
  | ok ds=>rw [q] at h;exact fun vs G1 H1 u r=>⟨G1,ds,u,r,h⟩
  | ex C=>rw [q] at h;exact h
  | no=>rw [q] at h;exact h
 refine PySem.W.callWith_K (h₀:=X.base) I.ok.mod.kin mk.kp (thn (ha pos pins s σ H _ I t) fun us s1 q=>⟨?_,?_⟩) he hpl
 ·obtain ⟨vs,H1,I1,r,_⟩:=q;exact I1.kIn
 obtain ⟨vs,H1,I1,r,G1,ds,u1,rp,h1⟩:=q
 unfold wY at h1
 by_cases hz:ds.length=n
 ·rw [if_pos hz] at h1
  refine zV c.ne mk M hr hb hl I1 r rp hz u1.sub ?_
  cases q:F [] ds with
  | ok d fs'=>
   rw [q] at h1
   cases d with
   | non=>
    refine ⟨rfl,fun x G' H' ow' u o=>h1 x G' H' ow' (u1.trans u) (o.keep ⟨fun _ _ _ _ e=>e,.refl _,fun _ _ _ _ _ n=>n,fun _ _ _ e _=>e,fun a o _ _ z=>u1.hh.free z⟩)⟩
   | _=>exact h1.elim
  | rd d=>rw [q] at h1;exact h1.elim
  | ex C'=>rw [q] at h1;exact Exx.up u1 h1
  | no=>rw [q] at h1;exact h1.elim
 ·rw [if_neg hz] at h1;exact h1.elim
end
theorem StR.setObj {K:PySem.W.Frag} {H₀ G':Hp} {x:Addr} {fs:List (Nat×Fd)} {ow':jg} (s:StR K G₀ H₀ G H σ ρ) (u:Up G H G' H') (ob:ObjAt K H G' H' ow' 0 true C x fs) (i:Nat):StR K G₀ H₀ G' H' (σ.set i (some (.ref x))) (ρ.set i (some (.obj true C x fs))):=by
 have get:∀ (j:Nat) y,(ρ.set i (some (.obj true C x fs)))[j]?=some (some y)->(j=i/\y=.obj true C x fs/\i<σ.length)\/(j≠i/\ρ[j]?=some (some y)/\(σ.set i (some (.ref x)))[j]?=σ[j]?):=fun j y h=>by
  by_cases e:i=j
  ·subst e
   have hl:i<ρ.length:=by
    have:=(List.getElem?_eq_some_iff.mp h).1
    simpa using this
   rw [List.getElem?_set_self hl] at h
   exact .inl ⟨rfl,by injection (Option.some.inj h) with q;exact q.symm,by rw [s.e.len];exact hl⟩
  ·rw [List.getElem?_set_ne e] at h
   exact .inr ⟨fun z=>e z.symm,h,List.getElem?_set_ne e⟩
 have s1:=s.ups u
 have ob':ObSt K H₀ G' H' (σ.set i (some (.ref x))) (ρ.set i (some (.obj true C x fs))):=by
  obtain ⟨ow,o1,o2⟩:=s.ob
  refine ⟨fun a=>open Classical in if H a=none then rO 0 i ow' a else ow a,fun j ds l h1 h2=>?_,fun j m' C' p' fs' h1=>?_⟩
  ·rcases get j _ h1 with ⟨_,z,_⟩|⟨nj,f1,f2⟩
   ·cases z
   ·rw [f2] at h2
    obtain ⟨l2,vs,q1,q2,_⟩:=s.own j ds f1
    rw [h2] at q1;cases q1
    exact (if_neg (by rw [q2];simp)).trans (o1 j ds l f1 h2)
  ·rcases get j _ h1 with ⟨rfl,z,hj⟩|⟨nj,f1,f2⟩
   ·cases z
    exact ⟨List.getElem?_set_self hj,ob.newtag (fun a t q n=>(if_pos n).trans (mU q)) fun a n=>s.up.hh.free n⟩
   ·rw [f2]
    have ku:ObKeep H₀ H₀ G H G' H' ow ow j:=.up u
    exact ⟨(o2 j m' C' p' fs' f1).1,(o2 j m' C' p' fs' f1).2.keep ⟨ku.hh,ku.gg,ku.gn,fun a t o q1 q2=>(if_neg (by rw [q2];simp)).trans q1,ku.h0⟩⟩
 refine ⟨⟨s1.e.sub,by simp [s1.e.len],fun j d h=>?_,ob'.rd⟩,s1.sub0,s1.up,fun j ds h=>?_,fun j k ds es l q1 q2 q3 q4=>?_,ob'⟩
 ·rcases get j _ h with ⟨_,z,_⟩|⟨_,f1,f2⟩
  ·cases z
  ·rw [f2];exact s1.e.val j d f1
 ·rcases get j _ h with ⟨_,z,_⟩|⟨nj,f1,f2⟩
  ·cases z
  ·rw [f2];exact s1.own j ds f1
 ·rcases get j _ q1 with ⟨_,z,_⟩|⟨nj,f1,f2⟩
  ·cases z
  ·rcases get k _ q2 with ⟨_,z,_⟩|⟨nk,f3,f4⟩
   ·cases z
   ·exact s1.inj j k ds es l f1 f3 (f2 ▸ q3) (f4 ▸ q4)
noncomputable def zk {α:Type} (X:Cx) (sts:List Stmt) (g:α->Ev->O):Prop:=∀ G₀ H₀,PSs X sts (fun D σ H=>∃ G ρ,StR X.K G₀ H₀ G H σ ρ/\∀ q,jj X G₀ H₀ D (g q ρ))
section
variable {di:List Stmt} {g1:Ev->O} {gs:Ev->O} {α:Type} {g2:α->Ev->O} {e:Expr} {gl':Ev->R (List D)} {cn:Str} {n:Nat} {p:Pos}
noncomputable def ww (g:Ev->O):Unit->Ev->O:=fun _=>g
noncomputable def oC (g1:Ev->O) (g2:α->Ev->O):α->Ev->O:=fun q ρ=>(g1 ρ).seq (g2 q)
noncomputable def zF (C:Addr) (i:Nat) (F:MF) (n:Nat) (gl:Ev->R (List D)) (g2:α->Ev->O):Addr×α->Ev->O:=fun q ρ=>(gl ρ>>=wY F n).out ρ fun fs=>g2 q.2 (ρ.set i (some (.obj true C q.1 fs)))
theorem rj (h:oJ X di gs):zk X di (ww gs):=fun G₀ H₀ pins s σ H D I ⟨G,ρ,sr,q⟩=>h G₀ H₀ pins s σ H D I ⟨G,ρ,sr,q ()⟩
theorem iq [Inhabited α] (h1:PSF X st g1) (h2:zk X di g2):zk X (st::di) (oC g1 g2):=fun G₀ H₀ pins s σ H D I h=>by
 refine iH (h1 G₀ H₀) (h2 G₀ H₀) pins s σ H D I ?_
 obtain ⟨G,ρ,sr,h⟩:=h
 have h:∀ q,jj X G₀ H₀ D ((g1 ρ).seq (g2 q)):=h
 refine ⟨G,ρ,sr,?_⟩
 cases q:g1 ρ with
 | nx ρ'=>rw [q] at h;exact fun σ' G' H' sr'=>⟨G',ρ',sr',h⟩
 | rt d=>rw [q] at h;exact h default
 | re d ρ'=>rw [q] at h;exact h default
 | bk ρ'=>rw [q] at h;exact h default
 | ct ρ'=>rw [q] at h;exact h default
 | ex C ρ'=>rw [q] at h;exact h default
 | no=>rw [q] at h;exact h default
theorem Bx [Inhabited α] (i:Nat) {py:Pos} (c:MkC X.prog X.w X.K X.mg X.base C cn k n F) (hr:Room (k+1) X.A) (hN:X.N.Nodup) (ha:PFA X (e::es) gl) (h2:zk X di g2) (hi:X.N[i]?=some y:=by rfl) (hx:Loc X.env.scope y:=by first|exact Or.inl rfl|exact Or.inr rfl)
 (hg:Gl X cn:=by rfl) (hdb:(cn==("__debug__":Str))=false:=by decide) (he:starEach (e::es) X.env=(false,eval e X.env)::starEach es X.env:=by rfl) (hpl:(backTo p (starEach es X.env)).any (·.1)=false:=by rfl)
 (hs:swapsWithSole [.Name y py] (.Call (.Name cn pos) (e::es) [] p) pos.line X.env=pure false:=by rfl) (hw:swappedStores [.Name y py] (.Call (.Name cn pos) (e::es) [] p) X.env=pure none:=by rfl) (hf:X.fn y=true\/X.env.scope.names.lookup y=some .local:=by first|exact .inl rfl|exact .inr rfl) {pos':Pos}
 (hs':swapsWithSole [.Name y py] (.Call (.Name cn pos) (e::es) [] p) pos'.line X.env=pure false:=by rfl) :
  zk X (.Assign [.Name y py] (.Call (.Name cn pos) (e::es) [] p) pos'::di) (zF C i F n gl g2):=fun G₀ H₀ pins s σ H D I h=>by
 refine iH (jc (Fo c hr ha hg hdb he hpl) (gy (i:=i) hN hi hx hf) hs' hw rfl) (h2 G₀ H₀) pins s σ H D I ?_
 obtain ⟨G,ρ,sr,h⟩:=h
 have h:∀ q:Addr×α,jj X G₀ H₀ D ((gl ρ>>=wY F n).out ρ fun fs=>g2 q.2 (ρ.set i (some (.obj true C q.1 fs)))):=h
 refine ⟨G,ρ,sr.e,?_⟩
 cases q:gl ρ>>=wY F n with
 | ok fs=>
  rw [q] at h
  exact fun x G' H' ow' u ob=>⟨G',_,sr.setObj u ob i,fun q2=>h (x,q2)⟩
 | ex C'=>rw [q] at h;exact Exx.of sr (h (0,default))
 | no=>rw [q] at h;exact (h (0,default)).elim
end
theorem Fun.okA {w:World} {K:PySem.W.Frag} {mg:Str->Option Value} {base:Heap} {N:List Str} {α:Type} (F:Fun K x qual st f fd) (S:FnScope N ps (ag st)) {g:α->Ev->O}
 (hg:∀ ds,ds.length=ps.length->gr ds=.no\/∀ q,az (g q (ax N.length ds))=gr ds)
 (hbody:∀ (cdv:Value) (A:Around) (outer:List Env) (s:Shared) (H:Hp) (E:XK),Room k (A.deeper (envOfC qual (ag st) s.heap.objs.size f cdv))->zk (gj (CXo P w) P w K mg base N qual (ag st) f cdv A outer s H E) (aZ st) g) :
  FnF P w K mg base (k+1) f fd ps gr:=by
 obtain ⟨oc,od,kV,doc,pm,an,cdv,ct,osl,rfl,lk,hcd⟩:=F.ex
 refine Dc lk hcd S (fun vs H Q E h=>h.1) fun A outer s H vs Q E hr hsp=>?_
 obtain ⟨hl,G,ds,sub,r,h⟩:=hsp
 refine ⟨_,hbody cdv A outer s H E hr G H,G,ax N.length ds,tT sub r,fun q0=>?_⟩
 rcases hg ds (by rw [<- r.length];exact hl) with z|z
 ·rw [z] at h;exact h.elim
 ·rw [<- z q0] at h
  cases q:g q0 (ax N.length ds) with
  | nx ρ=>rw [q] at h;exact fun σ G' H' sr=>h .non G' H' sr.up .non
  | rt d=>rw [q] at h;exact fun v G' H' u rv=>h v G' H' u rv
  | re d ρ=>rw [q] at h;exact fun v σ G' H' sr rv=>h v G' H' sr.up rv
  | bk ρ=>rw [q] at h;exact h.elim
  | ct ρ=>rw [q] at h;exact h.elim
  | ex C ρ=>rw [q] at h;exact fun e s' fl=>oz fl h
  | no=>rw [q] at h;exact h.elim
noncomputable def zY (X:Cx) (G₀ H₀:Hp) (σ:St) (Q:VK) (o:O):Prop:=match o with
 | .re d ρ=>∀ v G H,StR X.K G₀ H₀ G H σ ρ->Rep X.K G v d->Q v H
 | .ex C ρ=>∀ e s',FlyS X G₀ H₀ ρ C e s'->X.xe e s'
 | _=>False
noncomputable def tX (X:Cx) (G₀ H₀:Hp) (g:Ev->O):TE:=fun σ H Q=>∃ G ρ,StR X.K G₀ H₀ G H σ ρ/\zY X G₀ H₀ σ Q (g ρ)
noncomputable def PFX (X:Cx) (e:Expr) (g:Ev->O):Prop:=∀ G₀ H₀,PE X e (tX X G₀ H₀ g)
noncomputable def O.thenX (o:O) (k:D->Ev->O):O:=match o with
 | .re d ρ=>k d ρ
 | .ex C ρ=>.ex C ρ
 | _=>.no
section
variable {e a b c:Expr} {di:List Expr} {g g1 g2:Ev->O} {ga:Ev->R D} {gt:Ev->R Bool} {s1 s2:List Stmt} {h1 h2:Ev->O}
theorem Exx.fly {H₀:Hp} (sr:StR X.K G₀ H₀ G H σ ρ) (h:∀ e s',FlyS X G₀ H₀ ρ C e s'->X.xe e s'):Exx X σ G H C:=fun e s' ⟨G1,H1,u,f⟩=>h e s' (.of (sr.ups u) f)
theorem tX.read {α β:Type} {rep:Hp->β->α->Prop} {H₀:Hp} {m:Ev->R α} {Q:β->Hp->Prop} (sr:StR X.K G₀ H₀ G H σ ρ) (hk:∀ a,m ρ=.ok a->∀ v G1 H1,Up G H G1 H1->StR X.K G₀ H₀ G1 H1 σ ρ->rep G1 v a->Q v H1) (he:∀ C,m ρ=.ex C->∀ e s',FlyS X G₀ H₀ ρ C e s'->X.xe e s') (hn:m ρ ≠ .no):tG X rep m σ H Q:=by
 refine ⟨G,ρ,sr.e,?_⟩
 cases q:m ρ with
 | ok a=>exact fun v G' H' u r=>hk a q v G' H' u (sr.ups u) r
 | ex C=>exact Exx.fly sr (he C q)
 | no=>exact absurd q hn
end
noncomputable def Hz (C:Addr) (ρ:Ev) (i:Nat):R (Bool×Addr×List (Nat×Fd)):=match ρ[i]? with
 | some (some (.obj m C' p fs))=>if C'=C then .ok (m,p,fs) else .no
 | _=>.no
noncomputable def RM.outX (r:RM) (m:Bool) (C p:Addr) (i:Nat) (ρ:Ev):O:=match r with
 | .ok d fs'=>if m=true then .re d (ρ.set i (some (.obj true C p fs'))) else .no
 | .rd d=>.re d ρ
 | .ex E=>.ex E ρ
 | .no=>.no
noncomputable def fN (C:Addr) (i n:Nat) (F:MF) (gl:Ev->R (List D)):Ev->O:=fun ρ=>(Hz C ρ i).out ρ fun o=>(gl ρ).out ρ fun ds=>if ds.length=n then (F o.2.2 ds).outX o.1 C o.2.1 i ρ else .no
theorem yB {H₀:Hp} {Q:VK} {k:Bool×Addr×List (Nat×Fd)->O} (h:zY X G₀ H₀ σ Q ((Hz C ρ i).out ρ k)):∃ m p fs,ρ[i]?=some (some (.obj m C p fs))/\zY X G₀ H₀ σ Q (k (m,p,fs)):=by
 unfold Hz at h
 split at h
 ·rename_i m C' p fs e
  by_cases z:C'=C
  ·subst z;rw [if_pos rfl] at h;exact ⟨m,p,fs,e,h⟩
  ·rw [if_neg z] at h;exact h.elim
 ·exact h.elim
section
variable {e:Expr} {mn:Str} {n:Nat} {p1 ap ep:Pos}
theorem BD {H₀:Hp} {Q:VK} {Q':List V->Hp->Prop} {r:List D->O} (sr:StR X.K G₀ H₀ G H σ ρ) (h:zY X G₀ H₀ σ Q ((gl ρ).out ρ fun ds=>if ds.length=n then r ds else .no))
 (hk:∀ vs G1 H1 ds,StR X.K G₀ H₀ G1 H1 σ ρ->Reps X.K G1 vs ds->ds.length=n->zY X G₀ H₀ σ Q (r ds)->Q' vs H1):tAF X gl σ H Q':=by
 refine tX.read sr (fun ds e vs G1 H1 u s1 rr=>?_) (fun C e=>?_) fun e=>?_
 ·rw [e] at h
  have h:zY X G₀ H₀ σ Q (if ds.length=n then r ds else .no):=h
  by_cases hz:ds.length=n
  ·rw [if_pos hz] at h;exact hk vs G1 H1 ds s1 rr hz h
  ·rw [if_neg hz] at h;exact h.elim
 ·rw [e] at h;exact h
 ·rw [e] at h;exact h
theorem mB {H₀:Hp} {fs:List (Nat×Fd)} {Q:VK} {mm:Bool}
 (M:FnM X.prog X.w X.K X.mg X.base k f fd ps C F) (hr:Room k X.A) (hb:Binds X.K fd ps []) (hl:ps.length=n+1) (I:Inv X pins σ H s) (r:Vals vs us) (rp:Reps X.K G vs ds) (hz:ds.length=n) (sr:StR X.K G₀ H₀ G H σ ρ) (e1:ρ[i]?=some (some (.obj mm C p fs)))
 (h:zY X G₀ H₀ σ Q ((F fs ds).outX mm C p i ρ)):wpAny (model X.prog X.w) X.A (call (.ref f) (.ref p::us)) (EP X pins σ Q) X.xe s:=by
 obtain ⟨ow1,o1,o2⟩:=sr.ob
 obtain ⟨_,ob1⟩:=o2 i mm C p fs e1
 refine mV M hr hb hl I r rp hz sr.e.sub (fun a t q=>(im q).2.2.1) ob1.cut ?_
 cases q:F fs ds with
 | ok d fs'=>
  rw [q] at h
  cases mm with
  | false=>exact h.elim
  | true=>exact fun v G' H' ow' u ob rv=>h v G' H' (sr.meth e1 o1 o2 u ob) rv
 | rd d=>rw [q] at h;exact fun v G' H' u rv=>h v G' H' (sr.ups u) rv
 | ex C'=>rw [q] at h;exact Exx.fly sr h
 | no=>rw [q] at h;exact h.elim
theorem yh {pl:Sem Bool} (i:Nat) (c:CF X.K C ks) (m:MCallee X.prog X.w X.K X.mg X.base C mn k n F) (hr:Room k X.A) (ha:PFA X (e::es) gl) (hi:X.N[i]?=some x:=by rfl) (hv:Vis X.env.scope x:=by first|exact Or.inl rfl|exact Or.inr (Or.inl rfl)|exact Or.inr (Or.inr rfl))
 (hd:(x==("__debug__":Str))=false:=by decide) (hcd:(x==("__classdict__":Str))=false:=by decide) (hmn:∀ k,k<fnames.length->(mn==cP k)=false:=by decide)
 (hst:starEach (e::es) X.env=(false,eval e X.env)::starEach es X.env:=by rfl) (hpl:(backTo pos (starEach es X.env)).any (·.1)=false:=by rfl)
 (ht:eval (.Call (.Attribute (.Name x p1) mn ap) (e::es) [] pos) X.env=(do
 let ov <- eval (.Name x p1) X.env
 standAt ap.atName
 let (f,first) <- holding [ov] (getMethod ov mn pl)
 callWith pos f first (backTo pos (starEach (e::es) X.env)) (backToKw pos (keywordEach [] X.env))):=by rfl) :
  PFX X (.Call (.Attribute (.Name x p1) mn ap) (e::es) [] pos) (fN C i n F gl):=fun G₀ H₀ pins s σ H Q I h=>by
 obtain ⟨f,fd,ps,M,hm,hb,hl⟩:=m.ex
 obtain ⟨G,ρ,sr,h⟩:=h
 obtain ⟨mm,p,fs,e1,h⟩:=yB h
 obtain ⟨h1,_⟩:=sr.e.obs i mm C p fs e1
 have v:PE X (.Name x p1) (DT i):=dh hi hv hd hcd
 refine PySem.W.methodCall_KW (pl:=pl) (thn (v pins s σ H (fun u H'=>u=.ref p/\H'=H) I ⟨_,h1,rfl,rfl⟩) fun u s1 ⟨v',H',I',rv,ev,eh⟩=>?_) ht
 subst ev eh
 obtain rfl:u=Value.ref p:=rv
 obtain ⟨_,ow,ob0⟩:=sr.e.obs i mm C p fs e1
 obtain ⟨dx,vs,g1,g2,g3,g4,g5,g6,g7,g8⟩:=ob0.ins c.ne
 refine jl I' g1 c.cl hm (g8.none hmn) ?_
 have t:tAF X gl σ H' (fun vs H1=>∃ G1 ds,StR X.K G₀ H₀ G1 H1 σ ρ/\Reps X.K G1 vs ds/\ds.length=n/\zY X G₀ H₀ σ Q ((F fs ds).outX mm C p i ρ)):=
  BD sr h fun vs G1 H1 ds s1 r hz h=>⟨G1,ds,s1,r,hz,h⟩
 refine PySem.W.callWith_K (first:=[.ref p]) (h₀:=X.base) I.ok.mod.kin hm.kp (thn (ha pos pins s1 σ H' _ I' t) fun us s2 q=>⟨?_,?_⟩) hst hpl
 ·obtain ⟨vs,H1,I1,r,_⟩:=q;exact I1.kIn
 obtain ⟨vs,H1,I1,r,G1,ds,s2,rp,hz,h2⟩:=q
 exact mB M hr hb hl I1 r rp hz s2 e1 h2
end
structure CalleeM (P:Program) (w:World) (K:PySem.W.Frag) (mg:Str->Option Value) (base:Heap) (C:Addr) (x:Str) (k n:Nat) (F:MF):Prop where
 ex:∃ f fd ps,FnM P w K mg base k f fd ps C F/\mg x=some (.ref f)/\PySem.W.keepIn K (.ref f)=true/\Binds K fd ps []/\ps.length=n+1
theorem CalleeM.mono {w:World} {K:PySem.W.Frag} {mg:Str->Option Value} {base:Heap} {n:Nat} (c:CalleeM P w K mg base C x k n F) (k':Nat) (h:k<=k':=by decide):CalleeM P w K mg base C x k' n F:=by
 obtain ⟨f,fd,ps,M,hm,hk,hb,e⟩:=c.ex
 exact ⟨f,fd,ps,{ M with run:=fun A outer s H args us vs Q E hr=>M.run A outer s H args us vs Q E (hr.mono h) },hm,hk,hb,e⟩
section
variable {n:Nat} {p1 py:Pos}
theorem mO (i:Nat) (c:CalleeM X.prog X.w X.K X.mg X.base C x k n F) (hr:Room k X.A) (ha:PFA X es gl) (hi:X.N[i]?=some y:=by rfl) (hv:Vis X.env.scope y:=by first|exact Or.inl rfl|exact Or.inr (Or.inl rfl)|exact Or.inr (Or.inr rfl))
 (hd:(y==("__debug__":Str))=false:=by decide) (hcd:(y==("__classdict__":Str))=false:=by decide) (hg:Gl X x:=by rfl) (hdb:(x==("__debug__":Str))=false:=by decide)
 (hst:starEach (.Name y py::es) X.env=(false,eval (.Name y py) X.env)::starEach es X.env:=by rfl) (hpl:(backTo pos (starEach es X.env)).any (·.1)=false:=by rfl) :
  PFX X (.Call (.Name x p1) (.Name y py::es) [] pos) (fN C i n F gl):=fun G₀ H₀ pins s σ H Q I h=>by
 obtain ⟨f,fd,ps,M,hm,hk,hb,hl⟩:=c.ex
 obtain ⟨G,ρ,sr,h⟩:=h
 obtain ⟨mm,p,fs,e1,h⟩:=yB h
 obtain ⟨h1,_⟩:=sr.e.obs i mm C p fs e1
 have v:PE X (.Name y py) (DT i):=dh hi hv hd hcd
 refine wpAny_Call_Name_kw (lM I hg hm ?_ hdb)
 have t:Bo (DT i) (tAF X gl) σ H (fun vs H1=>∃ ws G1 ds,vs=.ref p::ws/\StR X.K G₀ H₀ G1 H1 σ ρ/\Reps X.K G1 ws ds/\ds.length=n/\zY X G₀ H₀ σ Q ((F fs ds).outX mm C p i ρ)):=
  ⟨_,h1,BD sr h fun vs G1 H1 ds s1 r hz h=>⟨vs,G1,ds,rfl,s1,r,hz,h⟩⟩
 refine PySem.W.callWith_K (h₀:=X.base) I.ok.mod.kin hk (thn (dJ v ha hst pos pins s σ H _ I t) fun us s2 q=>⟨?_,?_⟩) hst hpl
 ·obtain ⟨vs,H1,I1,r,_⟩:=q;exact I1.kIn
 obtain ⟨vs,H1,I1,r,ws,G1,ds,rfl,s2,rp,hz,h2⟩:=q
 cases r with
 | cons ru r=>
  obtain rfl:=ru
  exact mB M hr hb hl I1 r rp hz s2 e1 h2
end
noncomputable def Fm (P:Program) (w:World) (K:PySem.W.Frag) (mg:Str->Option Value) (base:Heap) (k:Nat) (s1:Shared) (G1 H1:Hp) (f:Addr) (Q:VK):Prop:=
 ∀ (Y:Cx) (pins:List (Addr×Obj)) (σY:St) (G2 H2:Hp) (s2:Shared) (fs:List Addr),Y.prog=P->Y.w=w->Y.K=K->Y.mg=mg->Y.base=base->Inv Y pins σY H2 s2->Room k Y.A->Un fs [] H1 H2 s1.heap s2.heap->Up G1 H1 G2 H2->
  (∃ o fd,s2.heap.get? f=some o/\o.data=.func fd)/\wpAny (model Y.prog Y.w) Y.A (call (.ref f) []) (EP Y pins σY Q) Y.xe s2
structure ToldOk (P:Program) (w:World) (K:PySem.W.Frag) (mg:Str->Option Value) (base:Heap) (x:Str) (k j:Nat):Prop where
 ex:∃ ft,mg x=some (.ref ft)/\PySem.W.keepIn K (.ref ft)=true/\∀ (A:Around) (outer:List Env) (s1:Shared) (G1 H1:Hp) (f:Addr) (Q:VK) (E:XK),Room k A->Env0 P w K mg base A outer s1 H1->Same G1 H1->Fm P w K mg base j s1 G1 H1 f Q->
  codeAny (model P w) A (.call (.ref ft) ⟨[.ref f],[]⟩) (CR (CXo P w) outer P w H1 s1 Q E) s1
noncomputable def eI (g:Ev->O):Ev->O:=fun ρ=>(g ρ).thenX fun _ ρ'=>.nx ρ'
theorem mD {e:Expr} {g:Ev->O} (h:PFX X e g) (hs:swapsWith e none pos.line X.env=pure false:=by rfl):PSF X (.Expr e pos) (eI g):=fun G₀ H₀ pins s σ H D I ⟨G,ρ,sr,q⟩=>by
 refine jx (h G₀ H₀) hs pins s σ H D I ⟨G,ρ,sr,?_⟩
 unfold eI at q
 cases e:g ρ with
 | re d ρ'=>rw [e] at q;exact fun v G' H' s' r=>q σ G' H' s'
 | ex C ρ'=>rw [e] at q;exact q
 | _=>rw [e] at q;exact q.elim
end L2
namespace L2
open PySem PySem.Spec PyProof.Rows
open PySem.AutoSeq1 (wpAny_loadPart')
open PySem.MeetsSeq PySem.MeetsSeq2 PySem.MeetsSeq3
inductive NumPairs:List (Value×Value)->List Int->List Int->Prop
 | nil:NumPairs [] [] []
 | cons {zs:List (Value×Value)} {xs ys:List Int} (i:Int) (t:Addr) (j:Int) (u:Addr) (r:NumPairs zs xs ys):NumPairs ((.int i t,.int j u)::zs) (i::xs) (j::ys)
end L2
namespace L2
open PySem PySem.Spec PyProof.Rows
section
variable {elt:Expr} {ifs:List Expr} {px:Pos} {gt:Ev->R Bool}
structure CompOkC (X:Cx) (scope:Scope) (x:Str):Prop where
 kind:scope.kind=.function
 names:∀ y∈scope.names,y.2=.local->scope.names.lookup y.1=some .local
 nofree:∀ y∈scope.names,y.2 ≠ .free
 cells:∀ L,cellsFrom L scope.names []=[(x,L)]
 lk:scope.names.lookup x=some .cell
 only:∀ y,scope.names.lookup y=some .cell->y=x
end
noncomputable abbrev TF:=List (Nat×Fd)->Option (List (Nat×Fd))
noncomputable def spT (K:PySem.W.Frag) (C:Addr) (F:TF):Sp:=fun vs H Q E=>∃ G p fs ow,vs=[.ref p]/\Same G H/\(∀ a t,ow a=some t->G a=none)/\ObjAt K (fun _=>none) G H ow 0 true C p fs/\
 ∃ fs',F fs=some fs'/\∀ x G' H' ow',Up G H G' H'->ObjAt K H G' H' ow' 0 true C x fs'->Q (.ref x) H'
noncomputable abbrev FnT (P:Program) (w:World) (K:PySem.W.Frag) (mg:Str->Option Value) (base:Heap) (k:Nat) (f:Addr) (fd:FuncData) (ps:List Str) (C:Addr) (F:TF):Prop:=FnOk P w K mg base (CXo P w) k f fd ps (fun vs H Q E=>vs.length=ps.length/\spT K C F vs H Q E)
structure TCallee (P:Program) (w:World) (K:PySem.W.Frag) (mg:Str->Option Value) (base:Heap) (C:Addr) (mn:Str) (k:Nat) (F:TF):Prop where
 ex:∃ f fd ps,FnT P w K mg base k f fd ps C F/\Meth K C mn f/\Binds K fd ps []/\ps.length=1
noncomputable def qX:D->Option Nat
 | .tup [.bl a,.bl b]=>some (code a b)
 | _=>none
noncomputable def fvs:List (Nat×Fd)->Option (List (Nat×D))
 | []=>some []
 | (k,.val d)::r=>(fvs r).map ((k,d)::·)
 | (_,.own _)::_=>none
noncomputable def qC (ρ:Ev) (i:Nat):R (List (Nat×D)):=match ρ[i]? with
 | some (some (.val (.dct ks ds)))=>.ok (ks.zip ds)
 | some (some (.obj _ C _ fs))=>if C=DC then ofO (fvs fs) else .no
 | _=>.no
theorem wF (e:qC ρ i=.ex C):False:=by
 unfold qC at e
 split at e
 ·cases e
 ·split at e
  ·revert e;unfold ofO;split <;> exact fun z=>nomatch z
  ·cases e
 ·cases e
theorem rJ:∀ (ks:List Nat) (ds:List D),fvs (ks.zip (ds.map Fd.val))=some (ks.zip ds)
 | [],_=>rfl
 | _::_,[]=>rfl
 | k::ks,d::ds=>by simp only [List.map_cons,List.zip_cons_cons,fvs,rJ ks ds,Option.map_some]
theorem tB:∀ a b c d:Bool,code a b=code c d->a=c/\b=d:=by decide
section
variable {K:PySem.W.Frag}
theorem KeysAt.inH (s:Same G H):∀ {xs:DX} {ks:List Nat},KeysAt K G xs ks->gh K H xs
 | _,_,.nil,x,hx=>nomatch hx
 | _,_,.cons h t,x,hx=>by
  rcases List.mem_cons.1 hx with rfl|hx
  ·exact h.mono s
  ·exact KeysAt.inH s t x hx
theorem KeysAt.twos:∀ {xs:DX} {ks:List Nat},KeysAt K G xs ks->HN xs
 | _,_,.nil,x,hx=>nomatch hx
 | _,_,.cons h t,x,hx=>by
  rcases List.mem_cons.1 hx with rfl|hx
  ·exact ⟨_,_,rfl⟩
  ·exact KeysAt.twos t x hx
theorem KeysAt.length:∀ {xs:DX} {ks:List Nat},KeysAt K G xs ks->xs.length=ks.length
 | _,_,.nil=>rfl
 | _,_,.cons _ t=>by simp [t.length]
theorem KeysAt.look {a b:Bool}:∀ {xs:DX} {ks:List Nat} {ds:List D},KeysAt K G xs ks->Reps K G (xs.map (·.2.2)) ds->
  ((ks.zip ds).lookup (code a b)=none/\lY xs [a,b]=none)\/∃ d v,(ks.zip ds).lookup (code a b)=some d/\lY xs [a,b]=some v/\Rep K G v d
 | _,_,_,.nil,.nil=>.inl ⟨rfl,rfl⟩
 | _,_,_,.cons (a:=c) (b:=e) h t,.cons r q=>by
  by_cases z:[c,e]=[a,b]
  ·cases z
   exact .inr ⟨_,_,by simp [List.lookup_cons],by simp [lY,List.find?_cons],r⟩
  ·have z':(code a b==code c e)=false:=beq_eq_false_iff_ne.2 fun y=>z (by obtain ⟨rfl,rfl⟩:=tB _ _ _ _ y;rfl)
   rcases t.look q with ⟨e1,e2⟩|⟨d,v,e1,e2,e3⟩
   ·exact .inl ⟨by simp only [List.zip_cons_cons,List.lookup_cons,z'];exact e1,by unfold lY at e2 ⊢;simp only [List.find?_cons,z,decide_false];exact e2⟩
   ·exact .inr ⟨d,v,by simp only [List.zip_cons_cons,List.lookup_cons,z'];exact e1,by unfold lY at e2 ⊢;simp only [List.find?_cons,z,decide_false];exact e2,e3⟩
theorem jR {n:Nat} (e:qX d=some n) (r:Rep K G v d):∃ q a b,v=.ref q/\n=code a b/\SqT K G q [.bl a,.bl b]:=by
 unfold qX at e
 split at e
 ·rename_i a b
  cases e
  obtain ⟨q,vs,rfl,hq,rs⟩:=r.tup_inv
  cases rs with
  | cons r1 t=>
   cases t with
   | cons r2 t=>
    cases t
    obtain rfl:=r1.bl_inv
    obtain rfl:=r2.bl_inv
    exact ⟨q,a,b,rfl,rfl,hq⟩
 ·cases e
theorem StE.dct {σ:St} {ρ:Ev} {i:Nat} {kv:List (Nat×D)} (st:StE K G H σ ρ) (e:qC ρ i=.ok kv) :
  ∃ a o xs ks ds,σ[i]?=some (some (.ref a))/\H a=some (DctO a o xs)/\KeysAt K G xs ks/\Reps K G (xs.map (·.2.2)) ds/\kv=ks.zip ds:=by
 unfold qC at e
 split at e
 ·rename_i ks ds q
  cases e
  obtain ⟨v,h1,r⟩:=st.val i _ q
  cases r with
  | dct h k r=>exact ⟨_,_,_,ks,ds,h1,st.sub _ _ h,k,r,rfl⟩
 ·rename_i m C p fs q
  split at e
  ·rename_i z
   obtain ⟨h1,ow,ob⟩:=st.obs i m C p fs q
   rw [z] at ob
   obtain ⟨o,xs,ks,ds,g1,g2,g3,g4,g5,g6,g7⟩:=ob.dco
   rw [g7,rJ] at e
   cases e
   exact ⟨p,o,xs,ks,ds,h1,g1,g5,g6,rfl⟩
  ·cases e
 ·cases e
end
section
variable {e:Expr} {ga:Ev->R D} {p:Pos}
noncomputable def HZ (K:PySem.W.Frag) (neg:Bool):R2:=fun x y H Q=>∃ q k a o xs,x=.ref q/\y=.ref a/\H a=some (DctO a o xs)/\gh K H xs/\SqT K H q (k.map V.bl)/\Q (.bl (if neg then !(lY xs k).isSome else (lY xs k).isSome)) H
theorem EL (hu:X.A.units+64<cLine):OpR X (compareOp .In) (HZ X.K false):=by
 intro pins s σ H x y v u Q I rx ry ⟨q,k,a,o,xs,ex,ey,h1,h2,h3,h4⟩
 subst ex ey
 cases rx
 cases ry
 exact Hl (by omega) I h1 h2 h3 fun s' I'=>⟨.bl _,H,I',rfl,h4⟩
theorem Ck (hu:X.A.units+64<cLine):OpR X (compareOp .NotIn) (HZ X.K true):=by
 intro pins s σ H x y v u Q I rx ry ⟨q,k,a,o,xs,ex,ey,h1,h2,h3,h4⟩
 subst ex ey
 cases rx
 cases ry
 exact yx (by omega) I h1 h2 h3 fun s' I'=>⟨.bl _,H,I',rfl,h4⟩
noncomputable def oX (neg:Bool) (i:Nat) (ge:Ev->R D):Ev->R Bool:=fun ρ=>ge ρ>>=fun d=>ofO (qX d)>>=fun n=>qC ρ i>>=fun kv=>.ok (if neg then !(kv.lookup n).isSome else (kv.lookup n).isSome)
theorem tI {Q:Bool->Hp->Prop} (h:tTF X (oX neg i ge) σ H Q):C4 (tOp (HZ X.K neg) (tF X ge) (DT i)) σ H Q:=by
 obtain ⟨G,ρ,st,h⟩:=h
 refine tG.intro st h fun d v G1 H1 u1 st1 r1 h1=>?_
 obtain ⟨n,e1,h1⟩:∃ n,qX d=some n/\(qC ρ i>>=fun kv=>R.ok (if neg then !(kv.lookup n).isSome else (kv.lookup n).isSome)).post (Fin G1 H1 (fun _ b c=>b=c) Q) (Exx X σ G1 H1):=by
  cases q:qX d with
  | none=>rw [q] at h1;exact h1.elim
  | some n=>rw [q] at h1;exact ⟨n,rfl,h1⟩
 cases q0:qC ρ i with
 | ok kv=>
  rw [q0] at h1
  obtain ⟨q,a,b,rfl,rfl,hq⟩:=jR e1 r1
  obtain ⟨c,o,xs,ks,ds,g1,g2,g3,g4,rfl⟩:=st1.dct q0
  refine ⟨.ref c,g1,q,[a,b],c,o,xs,rfl,rfl,g2,g3.inH st1.sub,hq.mono st1.sub,_,rfl,?_⟩
  have e2:(lY xs [a,b]).isSome=((ks.zip ds).lookup (code a b)).isSome:=by
   rcases g3.look g4 with ⟨y1,y2⟩|⟨d,v,y1,y2,_⟩ <;> rw [y1,y2] <;> rfl
  rw [e2]
  exact h1 _ G1 H1 (.refl st1.sub) rfl
 | ex C=>exact (wF q0).elim
 | no=>rw [q0] at h1;exact h1.elim
theorem AY (i:Nat) (hu:X.A.units+64<cLine) (he:PF X e ge) (hi:X.N[i]?=some x:=by rfl) (hv:Vis X.env.scope x:=by first|exact Or.inl rfl|exact Or.inr (Or.inl rfl)|exact Or.inr (Or.inr rfl))
 (hd:(x==("__debug__":Str))=false:=by decide) (hcd:(x==("__classdict__":Str))=false:=by decide) (hm:behindInMarks .In (.Name x p)=false:=by rfl):PB X (.Compare e [.In] [.Name x p] pos) (oX false i ge):=fun pins s σ H Q I h=>
 sx (EL hu) he (dh hi hv hd hcd) hm pins s σ H Q I (tI h)
theorem ET (i:Nat) (hu:X.A.units+64<cLine) (he:PF X e ge) (hi:X.N[i]?=some x:=by rfl) (hv:Vis X.env.scope x:=by first|exact Or.inl rfl|exact Or.inr (Or.inl rfl)|exact Or.inr (Or.inr rfl))
 (hd:(x==("__debug__":Str))=false:=by decide) (hcd:(x==("__classdict__":Str))=false:=by decide) (hm:behindInMarks .NotIn (.Name x p)=false:=by rfl):PB X (.Compare e [.NotIn] [.Name x p] pos) (oX true i ge):=fun pins s σ H Q I h=>
 sx (Ck hu) he (dh hi hv hd hcd) hm pins s σ H Q I (tI h)
noncomputable def Jx (K:PySem.W.Frag):R2:=fun x y H Q=>∃ a o xs q k v,x=.ref a/\y=.ref q/\H a=some (DctO a o xs)/\gh K H xs/\SqT K H q (k.map V.bl)/\lY xs k=some v/\Q v H
theorem G6 (hu:X.A.units+64<cLine):IxR X (Jx X.K):=by
 intro value slice pins s σ H x y v u Q I rx ry ⟨a,o,xs,q,k,w,ex,ey,h1,h2,h3,h4,h5⟩ hs
 subst ex ey
 cases rx
 cases ry
 obtain ⟨g1,_,_,g2,_⟩:=lN I h1
 exact tail_any (T:="dict") ⟨o,g1,g2.1⟩ PySem.F.slot_dict_getitem.lookup (Cn (by omega) I h1 h2 h3 h4 fun w' s' I' r=>⟨w,H,I',r,h5⟩) hs
noncomputable def gJ (i:Nat) (ge:Ev->R D):Ev->R D:=fun ρ=>qC ρ i>>=fun kv=>ge ρ>>=fun d=>ofO ((qX d).bind fun n=>kv.lookup n)
theorem qF (i:Nat) (hu:X.A.units+64<cLine) (he:PF X e ge) (hi:X.N[i]?=some x:=by rfl) (hv:Vis X.env.scope x:=by first|exact Or.inl rfl|exact Or.inr (Or.inl rfl)|exact Or.inr (Or.inr rfl))
 (hd:(x==("__debug__":Str))=false:=by decide) (hcd:(x==("__classdict__":Str))=false:=by decide) (hs:ni e:=by intro _ _;rfl):PF X (.Subscript (.Name x p) e pos) (gJ i ge):=fun pins s σ H Q I h=>by
 refine Ek (G6 hu) (dh hi hv hd hcd) he hs pins s σ H Q I ?_
 obtain ⟨G,ρ,st,h⟩:=h
 have h:(qC ρ i>>=fun kv=>ge ρ>>=fun d=>ofO ((qX d).bind fun n=>kv.lookup n)).post (Fin G H (Rep X.K) Q) (Exx X σ G H):=h
 cases q:qC ρ i with
 | ok kv=>
  rw [q] at h
  obtain ⟨c,o,xs,ks,ds,g1,g2,g3,g4,rfl⟩:=st.dct q
  refine ⟨.ref c,g1,tG.intro st h fun d v G1 H1 u1 st1 r1 h1=>?_⟩
  obtain ⟨w,e2,h1⟩:=ofO.ok h1
  cases e1:qX d with
  | none=>rw [e1] at e2;cases e2
  | some n=>
   rw [e1] at e2
   have e2:(ks.zip ds).lookup n=some w:=e2
   obtain ⟨q,a,b,rfl,rfl,hq⟩:=jR e1 r1
   rcases g3.look g4 with ⟨y1,_⟩|⟨d',v',y1,y2,y3⟩
   ·rw [y1] at e2;cases e2
   ·rw [y1] at e2
    cases e2
    exact ⟨c,o,xs,q,[a,b],v',rfl,rfl,u1.hh _ _ g2,fun z hz=>(g3.inH st.sub z hz).mono u1.hh,hq.mono st1.sub,y2,h1 v' G1 H1 (.refl st1.sub) (y3.mono u1.gg)⟩
 | ex C=>exact (wF q).elim
 | no=>rw [q] at h;exact h.elim
end
section
variable {K:PySem.W.Frag} {a b:Bool}
theorem KeysAt.same:∀ {xs:DX} {ks:List Nat},KeysAt K G xs ks->[a,b] ∉ xs.map (·.1)->xs.map (fun x=>if x.1=[a,b] then (x.1,x.2.1,v) else x)=xs
 | _,_,.nil,_=>rfl
 | _,_,.cons (a:=c) (b:=e) h t,n=>by
  rw [List.map_cons,List.mem_cons,not_or] at n
  rw [List.map_cons,if_neg (fun z=>n.1 z.symm),t.same n.2]
theorem wk {n:Nat} {fd:Fd}:∀ {fs:List (Nat×Fd)},fs.lookup n=none->je n fd fs=fs++[(n,fd)]
 | [],_=>rfl
 | (k,f)::fs,h=>by
  have ne:(n==k)=false:=by
   cases z:n==k with
   | false=>rfl
   | true=>simp only [List.lookup_cons,z] at h;cases h
  simp only [List.lookup_cons,ne] at h
  unfold je
  rw [if_neg (fun z=>by rw [z] at ne;simp at ne),wk h];rfl
theorem KeysAt.snoc:∀ {xs:DX} {ks:List Nat},KeysAt K G xs ks->SqT K G q [.bl a,.bl b]->KeysAt K G (xs++[([a,b],q,v)]) (ks++[code a b])
 | _,_,.nil,h=>.cons h .nil
 | _,_,.cons h t,z=>.cons h (t.snoc z)
theorem kS {n:Nat}:∀ {ks:List Nat} {ds:List D},(ks.zip ds).lookup n=none->(ks.zip (ds.map Fd.val)).lookup n=none
 | [],_,_=>rfl
 | _::_,[],_=>rfl
 | k::ks,d::ds,h=>by
  rw [List.zip_cons_cons,List.lookup_cons] at h
  rw [List.map_cons,List.zip_cons_cons,List.lookup_cons]
  cases z:n==k with
  | true=>rw [z] at h;cases h
  | false=>rw [z] at h;exact kS h
theorem KeysAt.over:∀ {xs:DX} {ks:List Nat} {ds:List D},KeysAt K G xs ks->Reps K G (xs.map (·.2.2)) ds->(xs.map (·.1)).Nodup->(lY xs [a,b]).isSome=true->Rep K G v d->
  KeysAt K G (xs.map fun x=>if x.1=[a,b] then (x.1,x.2.1,v) else x) ks/\∃ ds',Reps K G ((xs.map fun x=>if x.1=[a,b] then (x.1,x.2.1,v) else x).map (·.2.2)) ds'/\je (code a b) (.val d) (ks.zip (ds.map Fd.val))=ks.zip (ds'.map Fd.val)
 | _,_,_,.nil,.nil,_,h,_=>by cases h
 | _,_,_,.cons (a:=c) (b:=e) (ks:=ks) (xs:=ys) h t,.cons (ds:=ds) r1 r2,n,hv,r=>by
  rw [List.map_cons,List.nodup_cons] at n
  by_cases z:[c,e]=[a,b]
  ·cases z
   rw [List.map_cons,if_pos rfl,t.same n.1]
   exact ⟨.cons h t,d::ds,.cons r r2,by simp [je]⟩
  ·have z':code c e≠code a b:=fun y=>z (by obtain ⟨rfl,rfl⟩:=tB _ _ _ _ y;rfl)
   have hv':(lY ys [a,b]).isSome=true:=by unfold lY at hv ⊢;simpa only [List.find?_cons,z,decide_false] using hv
   obtain ⟨k1,ds',k2,k3⟩:=t.over r2 n.2 hv' r
   rw [List.map_cons,if_neg z]
   refine ⟨.cons h k1,_::ds',.cons r1 k2,?_⟩
   simp only [List.map_cons,List.zip_cons_cons,je,if_neg z',k3]
theorem KeysAt.put {xs:DX} (k:KeysAt K G xs ks) (rs:Reps K G (xs.map (·.2.2)) ds) (n:(xs.map (·.1)).Nodup) (hq:SqT K G q [.bl a,.bl b]) (r:Rep K G v d) :
  ∃ ks' ds',KeysAt K G (zr xs [a,b] q v) ks'/\Reps K G ((zr xs [a,b] q v).map (·.2.2)) ds'/\je (code a b) (.val d) (ks.zip (ds.map Fd.val))=ks'.zip (ds'.map Fd.val):=by
 unfold zr
 by_cases z:(lY xs [a,b]).isSome=true
 ·rw [if_pos z]
  obtain ⟨k1,ds',k2,k3⟩:=k.over rs n z r
  exact ⟨ks,ds',k1,k2,k3⟩
 ·rw [if_neg z]
  refine ⟨ks++[code a b],ds++[d],k.snoc hq,?_,?_⟩
  ·rw [List.map_append];exact rs.append (.cons r .nil)
  ·rcases k.look (a:=a) (b:=b) rs with ⟨y1,_⟩|⟨_,_,_,y2,_⟩
   ·have ln:ks.length=(ds.map Fd.val).length:=by rw [List.length_map,<- rs.length,List.length_map,k.length]
    rw [wk (kS y1),List.map_append,List.zip_append ln];rfl
   ·rw [y2] at z;exact absurd rfl z
end
theorem DRel.keys:∀ {xs:DX} {us:DU},DRel xs us->xs.map (·.1)=us.map (·.1)
 | _,_,.nil=>rfl
 | _,_,.cons h t=>by rw [List.map_cons,List.map_cons,h.1,DRel.keys t]
noncomputable def HP (K:PySem.W.Frag):HB:=fun x y v H Q=>∃ a o xs q k,x=.ref a/\y=.ref q/\H a=some (DctO a o xs)/\gh K H xs/\SqT K H q (k.map V.bl)/\xs.length<sizeLine/\((xs.map (·.1)).Nodup->∀ o',Q (upd H a (DctO a o' (zr xs k q v))))
section
variable {e ix:Expr} {ga gk:Ev->R D} {p tp:Pos}
theorem Du (hu:X.A.units+64<cLine):Jb X (HP X.K):=by
 intro pins s σ H o i v ov iv u Q I ro ri rv ⟨a,ob,xs,q,k,eo,ei,h1,h2,h3,h4,h5⟩
 subst eo ei
 cases ro
 cases ri
 obtain ⟨_,_,_,_,us,r,_,_,_,_,n⟩:=lN I h1
 rw [<- DRel.keys r] at n
 exact CQ (by omega) I h1 h2 h3 h4 rv fun o' s' I'=>⟨_,I',h5 n o'⟩
noncomputable def AA (i:Nat) (gk ga:Ev->R D):Ev->O:=fun ρ=>(qW DC ρ i).out ρ fun o=>(fK (ga ρ)).out ρ fun d=>(fK (gk ρ)).out ρ fun k=>match qX k with
 | some n=>if o.2.length<900 then .nx (ρ.set i (some (.obj true DC o.1 (je n (.val d) o.2)))) else .no
 | none=>.no
theorem GU (i:Nat) (hu:X.A.units+64<cLine) (he:PF X e ga) (hk:PF X ix gk) (hi:X.N[i]?=some x:=by rfl) (hv:Vis X.env.scope x:=by first|exact Or.inl rfl|exact Or.inr (Or.inl rfl))
 (hd:(x==("__debug__":Str))=false:=by decide) (hcd:(x==("__classdict__":Str))=false:=by decide)
 (hs:swapsWithSole [.Subscript (.Name x p) ix tp] e pos.line X.env=pure false:=by rfl) (hw:swappedStores [.Subscript (.Name x p) ix tp] e X.env=pure none:=by rfl)
 (h1':(assignEach [.Subscript (.Name x p) ix tp] X.env).map (·.2)=[assign (.Subscript (.Name x p) ix tp) X.env]:=by rfl)
 (ha:∀ v,assign (.Subscript (.Name x p) ix tp) X.env v=(do
 let ov <- holding [v] (eval (.Name x p) X.env)
 let iv <- holding [v,ov] (eval ix X.env)
 standAt tp
 holding [v,ov,iv] (setItem ov iv v)
 release [v,ov,iv] []):=by intro _;rfl) :
  PSF X (.Assign [.Subscript (.Name x p) ix tp] e pos) (AA i gk ga):=fun G₀ H₀ pins s σ H D I ⟨G,ρ,sr,h⟩=>by
 refine jc he (B1 (dh hi hv hd hcd) hk (Du hu) ha) hs hw h1' pins s σ H D I ⟨G,ρ,sr.e,?_⟩
 obtain ⟨pp,fs,e1,h⟩:=oN h
 obtain ⟨hσ,_⟩:=sr.e.obs i true DC pp fs e1
 cases q1:ga ρ with
 | ok d=>
  rw [q1] at h
  intro v G1 H1 u1 r1
  show Jz _ _ _ v σ H1 _
  refine ⟨.ref pp,hσ,G1,ρ,(sr.ups u1).e,?_⟩
  cases q2:gk ρ with
  | ok k=>
   rw [q2] at h
   intro kv G2 H2 u2 r2
   have sr2:=(sr.ups u1).ups u2
   obtain ⟨ow,o1,o2⟩:=sr2.ob
   obtain ⟨ob,xs,ks,ds,g1,g2,g3,g4,g5,g6,g7⟩:=(o2 i true DC pp fs e1).2.dco
   have h:jj X G₀ H₀ D (match qX k with
    | some n=>if fs.length<900 then .nx (ρ.set i (some (.obj true DC pp (je n (.val d) fs)))) else .no
    | none=>.no):=h
   cases q3:qX k with
   | none=>rw [q3] at h;exact h.elim
   | some n=>
    rw [q3] at h
    have h:jj X G₀ H₀ D (if fs.length<900 then .nx (ρ.set i (some (.obj true DC pp (je n (.val d) fs)))) else .no):=h
    by_cases hz:fs.length<900
    ·rw [if_pos hz] at h
     obtain ⟨q,a,b,rfl,rfl,hq⟩:=jR q3 r2
     have xl:xs.length=fs.length:=by
      have l1:=g5.length
      have l2:=g6.length
      rw [List.length_map] at l2
      rw [g7,List.length_zip,List.length_map];omega
     have lb:900<sizeLine:=by decide
     refine ⟨pp,ob,xs,q,[a,b],rfl,rfl,g1,g5.inH sr2.e.sub,hq.mono sr2.e.sub,by omega,fun nd o'=>h σ G2 _ ?_⟩
     obtain ⟨ks',ds',k1,k2,k3⟩:=g5.put g6 nd hq (r1.mono u2.gg)
     have np:∀ c o,H₀ c=some o->c≠pp:=fun c o z=>aJ z (g3 rfl)
     refine sr2.objTo e1 o1 o2 (ow2:=ow) (fun c o z nt=>?_) (fun c o z=>?_) (fun c o z=>?_) (fun _ _ _ _ _ z _=>z) (.inr ⟨rfl,o',_,ks',ds',aM,g2,g3,g4,k1,k2,by rw [g7];exact k3⟩)
     ·rw [aC (fun y=>nt 0 (by rw [y];exact g4))];exact z
     ·rw [aC (np c o z)];exact sr2.up.hh c o z
     ·rw [aC (aJ z g2)];exact sr2.e.sub c o z
    ·rw [if_neg hz] at h;exact h.elim
  | _=>rw [q2] at h;exact h.elim
 | _=>rw [q1] at h;exact h.elim
end
section
variable {di:List Stmt} {α:Type} {g2:α->Ev->O} {e:Expr} {ga:Ev->R D} {p py pos':Pos}
theorem wX {K:PySem.W.Frag} {p:Addr} {o:Obj} {xs:DX} (s:Same G H) (hp:H p=none) (k:KeysAt K G xs ks) (r:Reps K G (xs.map (·.2.2)) ds) :
  Up G H G (upd H p (DctO p o xs))/\ObjAt K H G (upd H p (DctO p o xs)) (fun a=>if a=p then some (0,0) else none) 0 true DC p (ks.zip (ds.map Fd.val)):=
 ⟨⟨fun a u q=>by rw [aC (aJ q (s.free hp))];exact s a u q,.refl _,.into hp,fun _ _ q=>.inl q⟩,.inr ⟨rfl,o,xs,ks,ds,aM,s.free hp,fun _=>hp,if_pos rfl,k,r,rfl⟩⟩
noncomputable def BJ (i:Nat) (g2:α->Ev->O):Addr×α->Ev->O:=fun q ρ=>g2 q.2 (ρ.set i (some (.obj true DC q.1 [])))
theorem D7 (i:Nat) (hN:X.N.Nodup) (h2:zk X di g2) (hi:X.N[i]?=some y:=by rfl) (hx:Loc X.env.scope y:=by first|exact Or.inl rfl|exact Or.inr rfl)
 (hw:swappedStores [.Name y py] (.Dict [] [] pos) X.env=pure none:=by rfl) (hf:X.fn y=true\/X.env.scope.names.lookup y=some .local:=by first|exact .inl rfl|exact .inr rfl)
 (hs:swapsWithSole [.Name y py] (.Dict [] [] pos) pos'.line X.env=pure false:=by rfl):zk X (.Assign [.Name y py] (.Dict [] [] pos) pos'::di) (BJ i g2):=fun G₀ H₀ pins s σ H D I ⟨G,ρ,sr,h⟩=>by
 refine iH (jc Et (gy (i:=i) hN hi hx hf) hs hw rfl) (h2 G₀ H₀) pins s σ H D I fun q o hq=>?_
 obtain ⟨u,ob⟩:=wX (o:=o) sr.e.sub hq (.nil:KeysAt X.K G [] []) (.nil:Reps X.K G [] [])
 exact ⟨G,_,sr.setObj u ob i,fun q2=>h (q,q2)⟩
noncomputable def wH (i:Nat) (ga:Ev->R D) (g2:α->Ev->O):Addr×α->Ev->O:=fun q ρ=>(fK (ga ρ)).out ρ fun d=>match d with
 | .dct (k::ks) ds=>g2 q.2 (ρ.set i (some (.obj true DC q.1 ((k::ks).zip (ds.map Fd.val)))))
 | _=>.no
theorem zy [Inhabited α] (i:Nat) (hN:X.N.Nodup) (hg:Gl X "dict") (hm:X.mg "dict"=none) (he:PF X e ga) (h2:zk X di g2) (hi:X.N[i]?=some y:=by rfl) (hx:Loc X.env.scope y:=by first|exact Or.inl rfl|exact Or.inr rfl)
 (hse:starEach [e] X.env=(false,eval e X.env)::starEach [] X.env:=by rfl)
 (hw:swappedStores [.Name y py] (.Call (.Name "dict" p) [e] [] pos) X.env=pure none:=by rfl) (hf:X.fn y=true\/X.env.scope.names.lookup y=some .local:=by first|exact .inl rfl|exact .inr rfl)
 (hs:swapsWithSole [.Name y py] (.Call (.Name "dict" p) [e] [] pos) pos'.line X.env=pure false:=by rfl):zk X (.Assign [.Name y py] (.Call (.Name "dict" p) [e] [] pos) pos'::di) (wH i ga g2):=fun G₀ H₀ pins s σ H D I ⟨G,ρ,sr,h⟩=>by
 refine iH (jc (lc qq hg hm PyProof.Rows.Boot.«dict» (dJ he jb hse) (by decide) (by decide) hse rfl) (gy (i:=i) hN hi hx hf) hs hw rfl) (h2 G₀ H₀) pins s σ H D I ⟨G,ρ,sr.e,?_⟩
 have h:∀ q:Addr×α,jj X G₀ H₀ D ((fK (ga ρ)).out ρ fun d=>match d with
  | .dct (k::ks) ds=>g2 q.2 (ρ.set i (some (.obj true DC q.1 ((k::ks).zip (ds.map Fd.val)))))
  | _=>.no):=h
 cases q1:ga ρ with
 | ok d=>
  rw [q1] at h
  intro v G1 H1 u1 r1
  cases r1 with
  | @dct c o xs ks ds hc hk hr=>
   have sr1:=sr.ups u1
   cases ks with
   | nil=>exact (h (0,default)).elim
   | cons k ks=>
    refine ⟨c,o,xs,rfl,u1.sub _ _ hc,hk.inH u1.sub,hk.twos,fun z=>by have:=hk.length;rw [z] at this;simp at this,fun q o' hq=>?_⟩
    obtain ⟨u,ob⟩:=wX (o:=o') u1.sub hq hk hr
    exact ⟨G1,_,sr1.setObj u ob i,fun q2=>h (q,q2)⟩
  | _=>exact (h (0,default)).elim
 | _=>rw [q1] at h;exact (h (0,default)).elim
noncomputable def qc (i:Nat):Ev->O:=fun ρ=>match ρ[i]? with
 | some (some (.obj true C _ fs))=>if C=DC then (match fvs fs with
  | some kv=>.rt (.dct (kv.map (·.1)) (kv.map (·.2)))
  | none=>.no) else .no
 | _=>.no
theorem Bw (i:Nat) (hi:X.N[i]?=some x:=by rfl) (hv:Vis X.env.scope x:=by first|exact Or.inl rfl|exact Or.inr (Or.inl rfl)|exact Or.inr (Or.inr rfl))
 (hd:(x==("__debug__":Str))=false:=by decide) (hcd:(x==("__classdict__":Str))=false:=by decide):PSF X (.Return (some (.Name x p)) pos) (qc i):=fun G₀ H₀ pins s σ H D I ⟨G,ρ,sr,h⟩=>by
 unfold qc at h
 split at h
 ·rename_i C q fs e1
  split at h
  ·rename_i z
   subst z
   obtain ⟨ow,_,o2⟩:=sr.ob
   obtain ⟨hσ,ob⟩:=o2 i true DC q fs e1
   obtain ⟨o,xs,ks,ds,g1,g2,g3,g4,g5,g6,g7⟩:=ob.dco
   rw [g7,rJ] at h
   have l1:=g5.length
   have l2:=g6.length
   rw [List.length_map] at l2
   have e2:(ks.zip ds).map (·.1)=ks:=List.map_fst_zip (by omega)
   have e3:(ks.zip ds).map (·.2)=ds:=List.map_snd_zip (by omega)
   have h:jj X G₀ H₀ D (.rt (.dct ((ks.zip ds).map (·.1)) ((ks.zip ds).map (·.2)))):=h
   rw [e2,e3] at h
   have into:Same G (upd G q (DctO q o xs)):=.into g2
   refine yu (dh hi hv hd hcd) pins s σ H D I ⟨_,hσ,h (.ref q) (upd G q (DctO q o xs)) H ⟨fun a u y=>?_,sr.up.gg.trans into,sr.up.hh,fun a u y=>?_⟩ (.dct aM (g5.mono into) (g6.mono into))⟩
   ·by_cases ea:a=q
    ·subst ea;rw [aM] at y;rw [<- y];exact g1
    ·rw [aC ea] at y;exact sr.e.sub a u y
   ·by_cases ea:a=q
    ·subst ea;exact .inr (g3 rfl)
    ·rw [aC ea] at y;exact sr.up.fr a u y
  ·exact h.elim
 ·exact h.elim
noncomputable def d1F:D->D->Option D:=fun k v=>(qX k).map fun n=>.dct [n] [v]
noncomputable def gD1 (gk gv:Ev->R D):Ev->R D:=fun ρ=>gk ρ>>=fun k=>gv ρ>>=fun v=>ofO (d1F k v)
theorem JU {k v:Expr} {gk gv:Ev->R D} (hu:X.A.units+64<cLine) (hk:PF X k gk) (hv:PF X v gv):PF X (.Dict [some k] [v] pos) (gD1 gk gv):=fun pins s σ H Q I ⟨G,ρ,st,h⟩=>by
 refine Ez (by omega) hk hv pins s σ H Q I fun q o hq=>?_
 have u0:Up G H G (upd H q (DctO q o [])):=⟨fun a u y=>by rw [aC (aJ y (st.sub.free hq))];exact st.sub a u y,.refl _,.into hq,fun _ _ y=>.inl y⟩
 have h:(gk ρ>>=fun k=>gv ρ>>=fun v=>ofO (d1F k v)).post (Fin G H (Rep X.K) Q) (Exx X σ G H):=h
 have st0:=st.up u0
 refine ⟨G,ρ,st0,?_⟩
 cases q1:gk ρ with
 | ok kd=>
  rw [q1] at h
  intro kv G1 H1 u1 r1
  refine ⟨G1,ρ,st0.up u1,?_⟩
  have h:(gv ρ>>=fun v=>ofO (d1F kd v)).post (Fin G H (Rep X.K) Q) (Exx X σ G H):=h
  cases q2:gv ρ with
  | ok vd=>
   rw [q2] at h
   intro vv G2 H2 u2 r2
   obtain ⟨w,e1,h⟩:=ofO.ok (show (ofO (d1F kd vd)).post (Fin G H (Rep X.K) Q) (Exx X σ G H) from h)
   unfold d1F at e1
   cases e2:qX kd with
   | none=>rw [e2] at e1;cases e1
   | some n=>
    rw [e2] at e1
    cases e1
    obtain ⟨c,a,b,rfl,rfl,hc⟩:=jR e2 r1
    have u:=u1.trans u2
    have gq:G2 q=none:=by
     cases z:G2 q with
     | none=>rfl
     | some o'=>
      rcases u.fr q o' z with y|y
      ·rw [st.sub.free hq] at y;cases y
      ·rw [aM] at y;cases y
    refine ⟨u.hh _ _ aM,c,[a,b],rfl,(hc.mono u2.gg).mono u2.sub,fun o'=>h (.ref q) (upd G2 q (DctO q o' [([a,b],c,vv)])) _ ⟨u2.sub.both,u.gg.trans (.into gq),fun x o'' y=>?_,fun x o'' y=>?_⟩ (.dct aM (.cons ((hc.mono u2.gg).mono (.into gq)) .nil) (.cons (r2.mono (.into gq)) .nil))⟩
    ·have nx:=aJ y hq
     rw [aC nx]
     exact u.hh x o'' (by rw [aC nx];exact y)
    ·by_cases ex:x=q
     ·subst ex;exact .inr hq
     ·rw [aC ex] at y
      rcases u.fr x o'' y with z|z
      ·exact .inl z
      ·rw [aC ex] at z;exact .inr z
  | ex C=>rw [q2] at h;exact Exx.up (u0.trans u1) h
  | no=>rw [q2] at h;exact h.elim
 | ex C=>rw [q1] at h;exact Exx.up u0 h
 | no=>rw [q1] at h;exact h.elim
noncomputable def BV (n:Nat):D:=.tup [.bl (n % 2==1),.bl (n / 2==1)]
noncomputable def xu:D->R (List D)
 | .dct ks ds=>.ok ((ks.zip ds).map fun z=>.tup [BV z.1,z.2])
 | _=>.no
theorem pj:∀ a b:Bool,BV (code a b)=.tup [.bl a,.bl b]:=by
 intro a b;cases a <;> cases b <;> rfl
theorem KeysAt.item {K:PySem.W.Frag}:∀ {xs:DX} {ks:List Nat} {ds:List D} {i:Nat} {y:List Bool×Addr×V},KeysAt K G xs ks->Reps K G (xs.map (·.2.2)) ds->xs[i]?=some y->∃ n d,(ks.zip ds)[i]?=some (n,d)/\Rep K G (.ref y.2.1) (BV n)/\Rep K G y.2.2 d
 | _,_,_,_,_,.nil,_,e=>by simp at e
 | _,_,_,0,_,.cons (a:=a) (b:=b) h t,.cons r1 r2,e=>by
  simp at e
  subst e
  exact ⟨_,_,rfl,by rw [pj];exact .tup h (.cons (.bl a) (.cons (.bl b) .nil)),r1⟩
 | _,_,_,i+1,_,.cons h t,.cons r1 r2,e=>by
  obtain ⟨n,d,h1,h2⟩:=KeysAt.item (i:=i) t r2 (by simpa using e)
  exact ⟨n,d,by simpa using h1,h2⟩
theorem ItOk.dct {K:PySem.W.Frag} {o:Obj} {xs:DX} (h:G a=some (DctO a o xs)) (k:KeysAt K G xs ks) (r:Reps K G (xs.map (·.2.2)) ds):ItOk K G (Itd a o xs) ((ks.zip ds).map fun z=>.tup [BV z.1,z.2]):=by
 intro i G1 H1 s1 s2
 have l1:=k.length
 have l2:=r.length
 rw [List.length_map] at l2
 have lz:((ks.zip ds).map fun z=>D.tup [BV z.1,z.2]).length=xs.length:=by rw [List.length_map,List.length_zip];omega
 have hH:=s2 _ _ (s1 _ _ h)
 refine ⟨fun d e=>?_,fun hl=>⟨hH,by rw [lz] at hl;exact hl⟩⟩
 have hi:i<xs.length:=by rw [<- lz];exact (List.getElem?_eq_some_iff.1 e).1
 refine ⟨⟨hH,hi⟩,fun x H' ⟨p,y,ex,hp,hy,eH⟩=>?_⟩
 subst ex eH
 obtain ⟨n,d',e1,e2,e3⟩:=k.item r hy
 rw [List.getElem?_map,e1] at e
 cases e
 have gp:=s2.free hp
 exact ⟨upd G1 p (.tup [.ref y.2.1,y.2.2]),.new s2 hp,.tup (.of aM) (.cons ((e2.mono s1).mono (.into gp)) (.cons ((e3.mono s1).mono (.into gp)) .nil))⟩
theorem xg {tp ap:Pos} (he:PF X e ga) (hbase:attributeBase e "items" X.env (eval e X.env)=eval e X.env:=by rfl) (hline:(ap.endLine==pos.line)=true:=by rfl) :
  PIF X (.Tuple elts kt tp) (.Call (.Attribute e "items" ap) [] [] pos) (fun ρ=>ga ρ>>=xu):=fun pins s σ H Rr I ⟨G,ρ,st,h⟩=>by
 refine zB he hbase hline pins s σ H Rr I (tG.intro st h fun d v G1 H1 u1 st1 r1 h1=>?_)
 cases r1 with
 | dct hh k r=>exact ⟨_,_,_,rfl,st1.sub _ _ hh,h1 _ G1 H1 (.refl st1.sub) (.dct hh k r)⟩
 | _=>exact h1.elim
end
noncomputable def pM (key:D->R D):D->Int->List D->R D
 | b,_,[]=>.ok b
 | b,kb,x::xs=>match key x with
  | .ok (.int kx)=>if kx<kb then pM key x kx xs else pM key b kb xs
  | _=>.no
noncomputable def oW (key:D->R D):List D->R D
 | x::xs=>(match key x with
  | .ok (.int kx)=>pM key x kx xs
  | _=>.no)
 | []=>.no
section
variable {n:Int}
theorem tm (F:FnF X.prog X.w X.K X.mg X.base k f fd ps g) (hr:Room k X.A.in1) (hh:X.A.handled=none) (hb:Binds X.K fd ps []) (hl:ps.length=1) (I:Inv X pins σ H s) (ru:RelV v u) (sub:Same G H) (rd:Rep X.K G v d) (e:g [d]=.ok (.int n)) :
  wpAny (model X.prog X.w) X.A.in1 (call (.ref f) [u]) (fun y s4=>∃ H4 t,y=.int n t/\Inv X pins σ H4 s4/\Same H H4/\Un (frs X.stack) [] H H4 s.heap s4.heap) E s:=by
 have J:Inv { X with A:=X.A.in1 } pins σ H s:=I.cx (A':=X.A.in1) (calm':=X.calm) (pn':=X.pn) (pins':=pins) (xe':=X.xe) (fun p q=>q) rfl (fun _=>hh)
 have hbb:=hb s [u] J.kIn (by rw [hl];rfl)
 refine wpAny_call (codeAny_mono (F.run X.A.in1 X.stack s H ⟨[u],[]⟩ [u] [v] (fun w H4=>w=.int n/\Same H H4) (fun _ _ _=>False) hr J.env0 hbb (.cons ru .nil) ⟨by rw [hl];rfl,G,[d],sub,.cons rd .nil,?_⟩) fun r s' hq=>?_)
 ·rw [e]
  exact fun w G' H' up rw'=>⟨rw'.int_inv,up.hh⟩
 ·cases r with
  | error z=>obtain ⟨_,_,_,_,_,z⟩:=hq;exact z.elim
  | ok fl=>
   cases fl with
   | ret y=>
    obtain ⟨w,H4,os4,bare4,un4,hok4,rk4,rfl,sm⟩:=hq
    obtain ⟨t,rfl⟩:=rk4
    exact ⟨H4,t,rfl,I.call' (s':=s') (ch:=[]) os4 un4 hok4 bare4 (fun b z=>absurd z (by simp)),sm,un4⟩
   | _=>exact False.elim hq
end
section
variable {H0:Hp} {Ii S l:Addr} {dd:D} {Rr:Result->Shared->Prop}
theorem EK {prog:Program} {w:World} {A:Around} {i j:Int} {t u:Tok} {Q:Value->Shared->Prop} (h:Q (.bool (decide (i<j))) s):wpAny (model prog w) A (richCompare .Lt (.int i t) (.int j u)) Q E s:=
 richCompare_gives (op:=.Lt) (typeIs_int s _ t) (typeIs_int s _ u) PySem.F.slot_int_lt PySem.F.entry_int_lt (PySem.F.args_int_lt_2 _ _) (gives_int_lt _ _ t u) (fun x=>nomatch x) h
theorem wW (F:FnF X.prog X.w X.K X.mg X.base k f fd ps g) (hr:Room k X.A.in1) (hh:X.A.handled=none) (hb:Binds X.K fd ps []) (hl1:ps.length=1) (hG:Same G H0) (hq:SqL X.K G l vs) (hlI:l≠Ii) (hSI:S≠Ii)
 (fpI:∀ H',H' Ii=none->mE X pins H' Ii) (fpS:∀ H',H' S=none->mE X pins H' S) (nfI:Ii ∉ frs X.stack) (nfS:S ∉ frs X.stack)
 (hR:∀ v u H' s',Inv X pins σ H' s'->Same H0 H'->RelV v u->Rep X.K G v dd->Rr (.ok (.ret u)) s') :
  ∀ (di:List D) (vrest:List V) (p:Nat) (b:D) (vb:V) (kb:Int) (s:Shared) (H:Hp) (ub:Value) (t:Tok) (c:Nat),p<=vs.length->vs.drop p=vrest->Reps X.K G vrest di->pM (fun d=>g [d]) b kb di=.ok dd->
   Inv X pins σ H s->Same H0 H->s.heap.get? S=some (seqObj "list" #[ub,.int kb t] c)->s.heap.IsListIter Ii l p->H Ii=none->H S=none->RelV vb ub->Rep X.K G vb b->
   codeAny (model X.prog X.w) X.A (.builtin "min.loop" ⟨[.ref Ii,.ref f,.ref S],[]⟩) Rr s:=by
 intro di
 have nm:(toString "min"++toString ".loop":String)="min.loop":=by decide
 induction di with
 | nil=>
  intro vrest p b vb kb s H ub t c hpl hd hrs hm I hs gS hit nI nS rb rpb
  cases hm
  cases hrs
  obtain ⟨its,rvs,pl,hz⟩:=I.list ((hq.mono hG).mono hs)
  have W:=Walks.list (prog:=X.prog) (w:=X.w) (A:=X.A.in1) hh Ii l hlI its.toArray
  obtain rfl:p=its.toArray.size:=by
   have h1:=rvs.length
   have h2:=List.drop_eq_nil_iff.1 hd
   simp;omega
  refine codeAny_builtin PySem.F.entry_min_loop ?_
  rw [Around.under_plainId PySem.F.plain_min_loop _]
  refine wpAny_bind (m:=seqItems? (.ref S)) (wpAny_seqItems gS rfl (wpAny_bind (m:=tryCatch (pyNext (.ref Ii)) _) (wpAny_tryCatch (W.done _ _ _ ⟨hit,pl.isList⟩ fun h6 tk6 hk6=>?_))))
  have I6:Inv X pins σ H { s with heap:=h6,toks:=tk6 }:=Inv.turnedL (s:=s) (h':=h6) (t':=tk6) (ch:=[Ii]) I (fun b ob hb e=>hk6 b ob hb e) (fun b hb=>by rw [List.mem_singleton.1 hb];exact fpI H nI)
  have s7:=Heap.SameBut.update h6 S (Obj.mapSeq fun _=>(#[]:Array Value))
  refine wpAny_bind (m:=updateSeq S fun _=>#[]) (wpAny_updateSeq (hk6 S _ (by simpa using hSI) gS) rfl (wpAny_bind (wpAny_letGo (wpAny_pure ?_))))
  exact hR vb ub H _ (Inv.turnedL (s:={ s with heap:=h6,toks:=tk6 }) (t':=tk6) (ch:=[S]) I6 (fun b ob hb e=>(s7.2 b (by simpa using hb)).trans e) (fun b hb=>by rw [List.mem_singleton.1 hb];exact fpS H nS)) hs rb rpb
 | cons d di ih=>
  intro vrest p b vb kb s H ub t c hpl hd hrs hm I hs gS hit nI nS rb rpb
  cases hrs with
  | cons rd rrest=>
  rename_i v vrest
  obtain ⟨its,rvs,pl,hz⟩:=I.list ((hq.mono hG).mono hs)
  have W:=Walks.list (prog:=X.prog) (w:=X.w) (A:=X.A.in1) hh Ii l hlI its.toArray
  have hvp:vs[p]?=some v:=by simpa [List.head?_drop] using congrArg List.head? hd
  have hdr:vs.drop (p+1)=vrest:=by simpa [List.tail_drop] using congrArg List.tail hd
  have hpl':p+1<=vs.length:=(List.getElem?_eq_some_iff.1 hvp).1
  obtain ⟨u,hu,ru⟩:=rvs.get hvp
  obtain ⟨kx,eg⟩:∃ kx,g [d]=.ok (.int kx):=by
   unfold pM at hm
   split at hm
   ·rename_i kx e;exact ⟨kx,e⟩
   ·cases hm
  simp only [pM,eg] at hm
  refine codeAny_builtin PySem.F.entry_min_loop ?_
  rw [Around.under_plainId PySem.F.plain_min_loop _]
  refine wpAny_bind (m:=seqItems? (.ref S)) (wpAny_seqItems gS rfl (wpAny_bind (m:=tryCatch (pyNext (.ref Ii)) _) (wpAny_tryCatch (W.item p _ _ _ (by simpa using (List.getElem?_eq_some_iff.1 hu).1) ⟨hit,pl.isList⟩ fun v' h3 tk3 hP hst3 hk3=>?_))))
  obtain rfl:v'=u:=by
   have:its[p]?=some v':=by simpa using hP
   rw [hu] at this;cases this;rfl
  obtain ⟨oI,hoI,hoc,hod⟩:=id hst3.1
  have I3:Inv X pins σ H { s with heap:=h3,toks:=tk3 }:=Inv.turnedL (s:=s) (h':=h3) (t':=tk3) (ch:=[Ii]) I (fun b ob hb e=>hk3 b ob hb e) (fun b hb=>by rw [List.mem_singleton.1 hb];exact fpI H nI)
  have gS3:h3.get? S=some (seqObj "list" #[ub,.int kb t] c):=hk3 _ _ (by simpa using hSI) gS
  refine wpAny_bind (m:=tryCatch (holding [v'] (call (.ref f) [v'])) _) (wpAny_tryCatch (wpAny_holding (wpAny_mono (tm (E:=fun _ _=>False) F hr hh hb hl1 I3 ru (hG.trans hs) rd eg) (fun y s4 ⟨H4,tx,ey,I4,sm4,un4⟩=>?_) fun _ _ z=>z.elim)))
  subst ey
  have gS4:=un4.keep _ _ gS3 nS nfS (by simp)
  have gI4:=un4.keep _ _ hoI nI nfI (by simp)
  have nI4:H4 Ii=none:=un4.free _ _ hoI nI (by simp)
  have nS4:H4 S=none:=un4.free _ _ gS3 nS (by simp)
  refine wpAny_bind (m:=tryCatch (holding [v',.int kx tx] (richCompare .Lt (.int kx tx) (.int kb t)>>=_)) _) (wpAny_tryCatch (wpAny_holding (wpAny_bind (EK (wpAny_bind (wpAny_holding (wpAny_truthy_bool (wpAny_bind (wpAny_letGo (wpAny_pure ?_))))))))))
  by_cases hlt:kx<kb
  ·rw [if_pos hlt] at hm
   rw [decide_eq_true hlt]
   have s1:=Heap.SameBut.update s4.heap S (Obj.mapSeq fun _=>#[v',.int kx tx])
   obtain ⟨c2,hc2⟩:∃ c2,(s4.heap.update S (Obj.mapSeq fun _=>#[v',.int kx tx])).get? S=some (seqObj "list" #[v',.int kx tx] c2):=⟨_,get?_update_seq gS4 fun _=>#[v',.int kx tx]⟩
   simp only [if_true]
   refine wpAny_bind (wpAny_updateSeq gS4 rfl (wpAny_bind (wpAny_letGo ?_)))
   rw [nm]
   exact wpAny_pure ⟨plainId_quiet PySem.F.plain_min_loop _,ih vrest (p+1) d v kx _ H4 v' tx c2 hpl' hdr rrest hm (Inv.turnedL (s:=s4) (t':=s4.toks) (ch:=[S]) I4 (fun b ob hb e=>(s1.2 b (by simpa using hb)).trans e) (fun b hb=>by rw [List.mem_singleton.1 hb];exact fpS H4 nS4)) (hs.trans sm4) hc2 ⟨oI,(s1.2 Ii hSI.symm).trans gI4,hoc,hod⟩ nI4 nS4 ru rd⟩
  ·rw [if_neg hlt] at hm
   rw [decide_eq_false hlt]
   simp only [Bool.false_eq_true,if_false]
   refine wpAny_bind (wpAny_letGo ?_)
   rw [nm]
   exact wpAny_pure ⟨plainId_quiet PySem.F.plain_min_loop _,ih vrest (p+1) b vb kb s4 H4 ub t c hpl' hdr rrest hm I4 (hs.trans sm4) gS4 ⟨oI,gI4,hoc,hod⟩ nI4 nS4 rb rpb⟩
theorem yz {v0:V} {vr:List V} {d0:D} {kb:Int} {Q:VK} (F:FnF X.prog X.w X.K X.mg X.base k f fd ps g) (hr:Room k X.A.in1) (hh:X.A.handled=none) (hb:Binds X.K fd ps []) (hl1:ps.length=1) (I:Inv X pins σ H s) (hG:Same G H) (hq:SqL X.K G l (v0::vr)) (r0:Rep X.K G v0 d0) (rr:Reps X.K G vr ds)
 (eg:g [d0]=.ok (.int kb)) (em:pM (fun d=>g [d]) d0 kb ds=.ok dd) (hQ:∀ v H',Same H H'->Rep X.K G v dd->Q v H') :
  wpAny (model X.prog X.w) X.A (call (.builtin "min") [.ref l] [(Str.ofString "key",.ref f)]) (EP X pins σ Q) X.xe s:=by
 have nm:(toString "min"++toString ".loop":String)="min.loop":=by decide
 obtain ⟨its,rvs,pl,hz⟩:=I.list (hq.mono hG)
 have hl:=pl.isList
 obtain ⟨ol,hol,_⟩:=id hl
 have ll:l<s.heap.objs.size:=Heap.lt_size hol
 refine kmk_tree PySem.F.kind_min PySem.F.plain_min PySem.F.entry_min (kmk_min_key _ _) ?_
 refine wpAny_bind (m:=Builtin.Builtins.bindParams "min" ["key","default"] 0 ⟨[],[(Str.ofString "key",.ref f)]⟩) (wpAny_of_eq (a:=[some (.ref f),none]) rfl (wpAny_bind (wpAny_pure (wpAny_bind (wpAny_pyIter_list hl (wpAny_bind (wpAny_newList ?_ (Nat.zero_le _))))))))
 rw [nm]
 generalize hI:s.heap.objs.size=Ii at *
 have hS:(s.heap.push { cls:=.type "list_iterator",data:=.fields #[.ref l,.int 0 0] }).objs.size=Ii+1:=by rw [<- hI];exact size_push' ..
 rw [hS]
 have hlI:l≠Ii:=Nat.ne_of_lt ll
 have hSI:Ii+1≠Ii:=Nat.ne_of_gt (Nat.lt_succ_self _)
 refine wpAny_pure ⟨plainId_quiet PySem.F.plain_min_loop _,?_⟩
 generalize hh2:(s.heap.push { cls:=.type "list_iterator",data:=.fields #[.ref l,.int 0 0] }).push (seqObj "list" #[] 0)=h2
 have k2:∀ b ob,s.heap.get? b=some ob->h2.get? b=some ob:=fun b ob e=>by rw [<- hh2];exact Heap.get?_push_of_some _ (Heap.get?_push_of_some _ e)
 have gI:h2.get? Ii=some { cls:=.type "list_iterator",data:=.fields #[.ref l,.int 0 0] }:=by
  rw [<- hh2,<- hI];exact Heap.get?_push_of_some _ (Heap.get?_push_size _ rfl)
 have gS:h2.get? (Ii+1)=some (seqObj "list" #[] 0):=by
  rw [<- hh2,<- hS];exact Heap.get?_push_size _ rfl
 have fpI:∀ H',H' Ii=none->mE X pins H' Ii:=fun H' n=>I.fpOk (by rw [hI];exact Nat.le_refl _) n
 have fpS:∀ H',H' (Ii+1)=none->mE X pins H' (Ii+1):=fun H' n=>I.fpOk (by rw [hI];exact Nat.le_succ _) n
 have nI:H Ii=none:=I.hok.fresh (by rw [hI];exact Nat.le_refl _)
 have nS:H (Ii+1)=none:=I.hok.fresh (by rw [hI];exact Nat.le_succ _)
 have noF:∀ b,s.heap.objs.size<=b->b ∉ frs X.stack:=fun b hb z=>by
  rcases List.mem_cons.1 (I.stkSub b z) with rfl|z
  ·exact absurd I.lt (Nat.not_lt.2 hb)
  ·exact I.nofs hb z
 have nfI:Ii ∉ frs X.stack:=noF _ (by rw [hI];exact Nat.le_refl _)
 have nfS:(Ii+1) ∉ frs X.stack:=noF _ (by rw [hI];exact Nat.le_succ _)
 have W:=Walks.list (prog:=X.prog) (w:=X.w) (A:=X.A.in1) hh Ii l hlI its.toArray
 obtain ⟨u0,hu0,ru⟩:=rvs.get (i:=0) (x:=v0) rfl
 refine codeAny_builtin PySem.F.entry_min_loop ?_
 rw [Around.under_plainId PySem.F.plain_min_loop _]
 refine wpAny_bind (m:=seqItems? (.ref _)) (wpAny_seqItems gS rfl (wpAny_bind (m:=tryCatch (pyNext (.ref Ii)) _) (wpAny_tryCatch (W.item 0 _ _ _ (by simpa using (List.getElem?_eq_some_iff.1 hu0).1) ⟨⟨_,gI,rfl,rfl⟩,hl.at fun o e=>k2 _ _ e⟩ fun v h3 tk3 hP hst3 hk3=>?_))))
 obtain rfl:v=u0:=by
  have:its[0]?=some v:=by simpa using hP
  rw [hu0] at this;cases this;rfl
 obtain ⟨oI,hoI,hoc,hod⟩:=id hst3.1
 have I3:Inv X pins σ H { s with heap:=h3,toks:=tk3 }:=Inv.turnedL (s:={ s with heap:=h2,toks:=s.toks }) (h':=h3) (t':=tk3) (ch:=[Ii]) (I.kept k2) (fun b ob hb e=>hk3 b ob hb e) (fun b hb=>by rw [List.mem_singleton.1 hb];exact fpI H nI)
 have gS3:h3.get? (Ii+1)=some (seqObj "list" #[] 0):=hk3 _ _ (by simp) gS
 refine wpAny_bind (m:=tryCatch (holding [v] (call (.ref f) [v])) _) (wpAny_tryCatch (wpAny_holding (wpAny_mono (tm (E:=fun _ _=>False) F hr hh hb hl1 I3 ru hG r0 eg) (fun y s4 ⟨H4,tx,ey,I4,sm4,un4⟩=>?_) fun _ _ z=>z.elim)))
 subst ey
 have gS4:=un4.keep _ _ gS3 nS nfS (by simp)
 have gI4:=un4.keep _ _ hoI nI nfI (by simp)
 have nI4:H4 Ii=none:=un4.free _ _ hoI nI (by simp)
 have nS4:H4 (Ii+1)=none:=un4.free _ _ gS3 nS (by simp)
 have s5:=Heap.SameBut.update s4.heap (Ii+1) (Obj.mapSeq fun _=>#[v,.int kb tx])
 obtain ⟨c5,hc5⟩:∃ c5,(s4.heap.update (Ii+1) (Obj.mapSeq fun _=>#[v,.int kb tx])).get? (Ii+1)=some (seqObj "list" #[v,.int kb tx] c5):=⟨_,get?_update_seq gS4 fun _=>#[v,.int kb tx]⟩
 refine wpAny_bind (m:=updateSeq (Ii+1) fun _=>#[v,.int kb tx]) (wpAny_updateSeq gS4 rfl ?_)
 rw [nm]
 refine wpAny_pure ⟨plainId_quiet PySem.F.plain_min_loop _,?_⟩
 exact wW (H0:=H) (G:=G) (vs:=v0::vr) F hr hh hb hl1 hG hq hlI hSI fpI fpS nfI nfS (fun v u H' s' I' sm' rv' rp'=>⟨v,H',I',rv',hQ v H' sm' rp'⟩) ds vr 1 d0 v0 kb _ H4 v tx c5 (by simp) rfl rr em (Inv.turnedL (s:=s4) (t':=s4.toks) (ch:=[Ii+1]) I4 (fun b ob hb e=>(s5.2 b (by simpa using hb)).trans e) (fun b hb=>by rw [List.mem_singleton.1 hb];exact fpS H4 nS4)) sm4 hc5 ⟨oI,(s5.2 Ii (Ne.symm hSI)).trans gI4,hoc,hod⟩ nI4 nS4 ru r0
end
theorem rm {key:D->R D}:∀ {xs:List D} {b:D} {kb:Int},(∃ d,pM key b kb xs=.ok d)\/pM key b kb xs=.no
 | [],b,kb=>.inl ⟨_,rfl⟩
 | x::xs,b,kb=>by
  unfold pM
  split
  ·split
   ·exact rm
   ·exact rm
  ·exact .inr rfl
theorem xF {key:D->R D} {x:D} {xs:List D}:(∃ kb d,key x=.ok (.int kb)/\pM key x kb xs=.ok d/\oW key (x::xs)=.ok d)\/oW key (x::xs)=.no:=by
 show _\/(match key x with
  | .ok (.int kx)=>pM key x kx xs
  | _=>.no)=.no
 have e0:oW key (x::xs)=(match key x with
  | .ok (.int kx)=>pM key x kx xs
  | _=>.no):=rfl
 rw [e0]
 cases e:key x with
 | ok d=>
  cases d with
  | int kb=>
   rcases rm (key:=key) (xs:=xs) (b:=x) (kb:=kb) with ⟨d,h⟩|h
   ·exact .inl ⟨kb,d,rfl,h,h⟩
   ·exact .inr h
  | _=>exact .inr rfl
 | _=>exact .inr rfl
noncomputable def rq (ga:Ev->R D) (g:List D->R D):Ev->R D:=fun ρ=>ga ρ>>=fun d=>match d with
 | .lst _ xs=>oW (fun d=>g [d]) xs
 | _=>.no
theorem BQ {a:Expr} {ga:Ev->R D} {fn:Str} {p fp kp:Pos} (hc:X.calm=true) (hg:Gl X "min") (hm:X.mg "min"=none) (c:Callee X.prog X.w X.K X.mg X.base fn k 1 g) (hr:Room k X.A.in1) (ha:PF X a ga) (hgf:Gl X fn:=by rfl) (hdb:(fn==("__debug__":Str))=false:=by decide)
 (hs:starEach [a] X.env=(false,eval a X.env)::starEach [] X.env:=by rfl)
 (hall:(backToKw pos (keywordEach [⟨some "key",.Name fn fp,kp⟩] X.env)).all (·.1.isSome)=true:=by rfl) (hks:(backToKw pos (keywordEach [⟨some "key",.Name fn fp,kp⟩] X.env)).filterMap (·.1)=[("key":Str)]:=by rfl)
 (hpl:((backTo pos (starEach [a] X.env)).any (·.1) || (backToKw pos (keywordEach [⟨some "key",.Name fn fp,kp⟩] X.env)).any (·.1.isNone))=false:=by rfl) :
  PF X (.Call (.Name "min" p) [a] [⟨some "key",.Name fn fp,kp⟩] pos) (rq ga g):=fun pins s σ H Q I ⟨G,ρ,st,h⟩=>by
 obtain ⟨f,fd,ps,F,hmf,hkp,hb,hl1⟩:=c.ex
 have ta:Bo (tF X ga) Ir σ H (fun vs H1=>∃ v,vs=[v]/\∃ G1 d,Up G H G1 H1/\Rep X.K G1 v d/\(match d with|.lst _ xs=>oW (fun d=>g [d]) xs|_=>.no:R D).post (Fin G1 H1 (Rep X.K) Q) (Exx X σ G1 H1)):=
  tG.intro st h fun d v G1 H1 u1 st1 r1 h1=>⟨v,rfl,G1,d,u1,r1,h1⟩
 refine wpAny_Call_Name_kw (ka I hg hm PyProof.Rows.Boot.«min» ?_ (by decide) (by decide))
 refine PySem.W.callWith_of (P:=fun _=>True) hpl (fun h _=>by first|exact ⟨_,.inl rfl,PySem.W.Looks.of_pure rfl⟩|exact ⟨_,.inr (.inl rfl),PySem.W.Looks.of_pure rfl⟩|exact ⟨_,.inr (.inr rfl),PySem.W.Looks.of_pure rfl⟩) (evalArgs_kw2 hall (thn ((dJ ha jb hs) pos pins s σ H _ I ta) fun us s1 ⟨vs,H1,I1,r1,q1⟩=>?_) hs)
 obtain ⟨v,hv,G1,d,u1,rd,h1⟩:∃ v,vs=[v]/\∃ G1 d,Up G H G1 H1/\Rep X.K G1 v d/\(match d with|.lst _ xs=>oW (fun d=>g [d]) xs|_=>.no:R D).post (Fin G1 H1 (Rep X.K) Q) (Exx X σ G1 H1):=q1
 subst hv
 obtain ⟨u,rfl,rv⟩:=r1.one
 show wpAny _ _ (evalAll ((do let v <- eval (.Name fn fp) X.env;standAt pos;pure v)::(backToKw pos (keywordEach [] X.env)).map (·.2))) _ _ s1
 refine wpAny_evalAll_cons (wpAny_bind (thn (ou (v:=.ref f) hgf hmf rfl hdb pins s1 σ H1 (fun w H2=>w=.ref f/\H2=H1) I1 ⟨rfl,rfl⟩) fun fv s2 ⟨w,H2,I2,rw2,ew,eh⟩=>wpAny_bind (wpAny_standAt (wpAny_pure (wpAny_evalAll_nil ⟨trivial,?_⟩)))))
 subst ew eh
 cases rw2
 rw [hks]
 have fin:∀ {l:Addr} {v0:V} {vr:List V} {x0:D} {ds:List D},u=.ref l->SqL X.K G1 l (v0::vr)->Rep X.K G1 v0 x0->Reps X.K G1 vr ds->(oW (fun d=>g [d]) (x0::ds)).post (Fin G1 H2 (Rep X.K) Q) (Exx X σ G1 H2)->
   wpAny (model X.prog X.w) X.A (call (.builtin "min") [u] [(Str.ofString "key",.ref f)]) (EP X pins σ Q) X.xe s2:=by
  intro l v0 vr x0 ds eu hq r0 rr h0
  subst eu
  rcases xF (key:=fun d=>g [d]) (x:=x0) (xs:=ds) with ⟨kb,dd,eg,em,e1⟩|e1
  ·rw [e1] at h0
   exact yz F hr (I2.ok.hd hc) hb hl1 I2 u1.sub hq r0 rr eg em fun v H' sm rp=>h0 v G1 H' ⟨u1.sub.trans sm,.refl _,sm,fun a o h=>.inl h⟩ rp
  ·rw [e1] at h0;exact h0.elim
 cases rd with
 | lst hq t=>
  cases rv
  cases t with
  | nil=>exact h1.elim
  | cons r0 t=>exact fin rfl (.of hq) r0 t h1
 | fls hq t=>
  cases rv
  cases t with
  | nil=>exact h1.elim
  | cons r0 t=>exact fin rfl hq r0 t h1
 | _=>exact h1.elim
noncomputable def jT (K:PySem.W.Frag) (c:Addr) (d:D):Prop:=∀ G,Rep K G (.ref c) d
theorem aW {c:Addr} (hg:Gl X x) (hm:X.mg x=some (.ref c)) (hk:jT X.K c d) (hd:(x==("__debug__":Str))=false:=by decide):PF X (.Name x pos) (fun _=>.ok d):=fun pins s σ H Q I ⟨G,ρ,st,q⟩=>
 ou (v:=.ref c) hg hm rfl hd pins s σ H Q I (q _ G H (.refl st.sub) (hk G))
theorem A2 {K:PySem.W.Frag} {c:Addr} {o:Obj} {its:Array Value} {n:Nat} (h1:K.lookup c=some o) (h2:o.cls=.type "tuple") (h3:o.data=.seq its n) (h4:its.size<=sizeLine) (h5:Vals vs its.toList) (h6:∀ G,Reps K G vs ds):jT K c (.tup ds):=fun G=>.tup (.inr ⟨o,its,n,h1,h2,h3,h4,h5⟩) (h6 G)
theorem Gy {a b:Expr} {ga:Ev->R D} (h:PF X (.Subscript a b pos) ga):PB X (.Subscript a b pos) (aI jM ga):=wU h
noncomputable def xY (i:Nat) (g:Ev->O):Ev->O:=fun ρ=>(g ρ).thenX fun d ρ'=>.nx (ρ'.set i (some (.val d)))
theorem Ee {e:Expr} {g:Ev->O} {p:Pos} (i:Nat) (hN:X.N.Nodup) (h:PFX X e g) (hi:X.N[i]?=some x:=by rfl) (hx:Loc X.env.scope x:=by first|exact Or.inl rfl|exact Or.inr rfl)
 (hs:swapsWithSole [.Name x p] e pos.line X.env=pure false:=by rfl) (hw:swappedStores [.Name x p] e X.env=pure none:=by rfl) (hf:X.fn x=true\/X.env.scope.names.lookup x=some .local:=by first|exact .inl rfl|exact .inr rfl) :
  PSF X (.Assign [.Name x p] e pos) (xY i g):=fun G₀ H₀ pins s σ H D I ⟨G,ρ,sr,q⟩=>by
 refine jc (h G₀ H₀) (gy (i:=i) hN hi hx hf) hs hw rfl pins s σ H D I ⟨G,ρ,sr,?_⟩
 unfold xY at q
 cases e:g ρ with
 | re d ρ'=>rw [e] at q;exact fun v G' H' s' r=>q _ G' H' (s'.set r i)
 | ex C ρ'=>rw [e] at q;exact q
 | _=>rw [e] at q;exact q.elim
theorem DW (l:Addr) (items:Array Value) (n:Nat) (b:Addr) (items2:Array Value) (hs1:items.size+items2.size<=sizeLine) :
  Meets (Builtin.«list.extend» { pos:=[.ref l,.ref b] }) fun _ R s=>s.heap.get? l=some { cls:=.type "list",data:=.seq items n }/\IsTup s.heap b items2/\R (.ok (.ret .none)) { s with heap:=s.heap.update l (Obj.mapSeq fun x=>x++items2) }:=by
 intro prog w A R s ⟨hl,⟨o,e2,hc,n2,hd⟩,h⟩
 show wpAny _ _ (selfAndOne "list.extend" { pos:=[.ref l,.ref b] }>>=_) _ _ s
 refine wpAny_bind (wpAny_of_eq (a:=(.ref l,.ref b)) rfl ?_)
 show wpAny _ _ (Builtin.List.listExtendWith (.ref l) (.ref b) .none) _ _ s
 unfold Builtin.List.listExtendWith
 refine wpAny_bind (wpAny_typeOf (T:="tuple") ⟨o,e2,hc⟩ ?_)
 rw [if_pos (by rw [Bool.or_eq_true];exact .inr (by decide))]
 unfold Builtin.List.listItems
 refine wpAny_bind (wpAny_bind (wpAny_seqItems e2 hd (wpAny_pure ?_)))
 refine wpAny_bind (wpAny_bind (wpAny_seqItems hl rfl (wpAny_pure ?_)))
 dsimp only
 rw [uJ hs1,Bool.and_false,if_neg (by decide)]
 show wpAny _ _ (updateSeq l (fun x=>x++items2)>>=_) _ _ s
 refine wpAny_bind (wpAny_updateSeq (hz:=Nat.le_trans (Nat.le_add_right _ _) hs1) (_hz':=?_) hl rfl ?_)
 ·exact wpAny_pure (a:=Fin.done (.ret .none)) h
 ·rw [Array.size_append];omega
noncomputable def Ih (K:PySem.W.Frag):V->List V->Hp->VK->Prop:=fun x vs H Q=>∃ l b xs zs,x=.ref l/\vs=[.ref b]/\H l=some (.lst xs)/\SqT K H b zs/\xs.length+zs.length<=sizeLine/\Q .non (upd H l (.lst (xs++zs)))
theorem Cq:MtM X "list.extend" (Ih X.K):=by
 intro pins s σ H x vs v us Q I rx rv h
 obtain ⟨l,b,xs,zs,rfl,rfl,hH,hB,hz,q⟩:=h
 cases rx
 obtain ⟨u,rfl,ru⟩:=rv.one
 cases ru
 obtain ⟨z,its,n,r,hl,e⟩:=I.lstM hH
 obtain ⟨its2,r2,it2,z2⟩:=I.tuple hB
 have hl2:=r2.length
 have hsz:its.toArray.size+its2.toArray.size<=sizeLine:=by rw [List.size_toArray,List.size_toArray];omega
 refine call_meets F.slot_list_extend ⟨_,e,rfl⟩ F.entry_list_extend (F.args_list_extend_2 _ _) (DW l its.toArray n b its2.toArray hsz) ⟨e,it2,?_⟩
 refine ⟨.non,_,I.lset (its':=its++its2) hH e (by simp) (r.append r2) ?_,rfl,q⟩
 rw [List.length_append]
 omega
noncomputable def asT:D->R (List D)
 | .tup xs=>.ok xs
 | _=>.no
noncomputable def Eb (i:Nat) (ga:Ev->R D):Ev->O:=fun ρ=>(ownAt ρ i).out ρ fun ds=>(ga ρ).out ρ fun d=>(asT d).out ρ fun es=>if ds.length+es.length<=sizeLine then .nx (ρ.set i (some (.own (ds++es)))) else .no
theorem ER {e:Expr} {ga:Ev->R D} (i:Nat) {p ap cp:Pos} (he:PF X e ga) (hi:X.N[i]?=some x:=by rfl) (hv:Vis X.env.scope x:=by first|exact Or.inl rfl|exact Or.inr (Or.inl rfl))
 (hd:(x==("__debug__":Str))=false:=by decide) (hcd:(x==("__classdict__":Str))=false:=by decide) (hs1:starEach [e] X.env=(false,eval e X.env)::starEach [] X.env:=by rfl)
 (hbase:attributeBase (.Name x p) "extend" X.env (eval (.Name x p) X.env)=eval (.Name x p) X.env:=by rfl)
 (hfew:((backTo cp (starEach [e] X.env)).all (fun x=>!x.1) && (backToKw cp (keywordEach [] X.env)).all (fun x=>x.1.isSome)
 && decide ([e].length+([]:List Keyword).length+(if ([]:List Keyword).isEmpty then 0 else 1)<30))=true:=by rfl)
 (hline:(ap.endLine==cp.line)=true:=by rfl)
 (hs:swapsWith (.Call (.Attribute (.Name x p) "extend" ap) [e] [] cp) none pos.line X.env=pure false:=by rfl) :
  PSF X (.Expr (.Call (.Attribute (.Name x p) "extend" ap) [e] [] cp) pos) (Eb i ga):=fun G₀ H₀ pins s σ H D I h=>by
 refine jx (Bp PySem.F.plainAttrs_list PySem.F.slot_list_extend PySem.F.type_list_extend Cq (dh hi hv hd hcd) (dJ he jb hs1) hbase hfew hline hs1 rfl) hs pins s σ H D I ?_
 obtain ⟨G,ρ,sr,h⟩:=h
 have h:jj X G₀ H₀ D ((ownAt ρ i).out ρ fun ds=>(ga ρ).out ρ fun d=>(asT d).out ρ fun es=>if ds.length+es.length<=sizeLine then .nx (ρ.set i (some (.own (ds++es)))) else .no):=h
 obtain ⟨ds,e1,h⟩:=ownAt.ok h
 obtain ⟨l,vs,h1,h2,h3,h4,h5⟩:=sr.own i ds e1
 refine ⟨.ref l,h1,.inl ⟨rfl,vs,.of h2⟩,G,ρ,sr.e,?_⟩
 cases q:ga ρ with
 | ok d=>
  rw [q] at h
  simp only [R.out] at h
  intro v G' H' u r
  cases r with
  | tup hb t=>
   rename_i b ws es
   have h:jj X G₀ H₀ D (if ds.length+es.length<=sizeLine then .nx (ρ.set i (some (.own (ds++es)))) else .no):=h
   by_cases hz:ds.length+es.length<=sizeLine
   ·rw [if_pos hz] at h
    refine ⟨l,b,vs,ws,rfl,rfl,u.hh _ _ h2,hb.mono u.sub,by rw [h5.length,t.length];exact hz,h _ G' _ ?_⟩
    exact (sr.ups u).mut e1 h1 ((h5.mono u.gg).append t)
   ·rw [if_neg hz] at h;exact h.elim
  | _=>exact h.elim
 | ex C=>rw [q] at h;exact Exx.of sr h
 | no=>rw [q] at h;exact h
section
variable {g g1 g2':Ev->O} {gt gu:Ev->R Bool} {ga gc:Ev->R D} {go gp:Ev->R (Option Int)} {n:Nat} {f f':D->D->Option D}
theorem AO:aH g1 g2' ρ=(g1 ρ).seq g2':=rfl
theorem LD:oIf gt g1 g2' ρ=(gt ρ).out ρ fun k=>if k=true then g1 ρ else g2' ρ:=rfl
theorem FI:fP i ga ρ=(ga ρ).out ρ fun d=>.nx (ρ.set i (some (.val d))):=rfl
theorem Ht:cA ga ρ=(ga ρ).out ρ .rt:=rfl
theorem KH:oNx ρ=.nx ρ:=rfl
theorem JV:EZ i gl ρ=(gl ρ).out ρ fun ds=>.nx (ρ.set i (some (.own ds))):=rfl
theorem E7:oe ga ρ=(ga ρ).out ρ fun _=>.nx ρ:=rfl
theorem CB:vQ asg gl g ρ=(gl ρ).out ρ fun items=>cN asg g items ρ:=rfl
theorem Db:lv C gl ρ=(gl ρ).out ρ fun _=>.ex C ρ:=rfl
theorem Jj:K9 asg ga ρ=(ga ρ).out ρ fun d=>(asg d ρ).out ρ .nx:=rfl
theorem IV:Ft i g ρ=g (frz i ρ):=rfl
theorem B8 {α β:Type} {h:α->R β} {gx:Ev->R α}:aI h gx ρ=gx ρ>>=h:=rfl
theorem KG {h:List D->Option D}:gOf h gl ρ=gl ρ>>=fun ds=>ofO (h ds):=rfl
theorem pP:aa ga gl ρ=ga ρ>>=fun x=>gl ρ>>=fun xs=>.ok (x::xs):=rfl
theorem D9:cz gl ρ=gl ρ>>=fun ds=>.ok (.lst false ds):=rfl
theorem HL:wB gl ρ=gl ρ>>=fun ds=>if ds.length<=sizeLine then .ok ds else .no:=rfl
theorem Lh:gB2 f ga gb ρ=g2 f ga gb ρ>>=asB:=rfl
theorem Kt:gB3 f f' ga gb gc ρ=g3 f f' ga gb gc ρ>>=asB:=rfl
theorem Lj:gBn gt ρ=gt ρ>>=fun k=>.ok (!k):=rfl
theorem FY:jH ga ρ=ga ρ>>=fun x=>asI x>>=fun i=>.ok (some i):=rfl
theorem Hu {T:String} {h:D->List D->Option D}:lU T h ga gl ρ=ga ρ>>=fun x=>if mf T x=true then gl ρ>>=fun ds=>ofO (h x ds) else .no:=rfl
theorem LA:g2 f ga gb ρ=ga ρ>>=fun x=>gb ρ>>=fun y=>ofO (f x y):=rfl
theorem E2:mr ga gb ρ=ga ρ>>=fun x=>asB x>>=fun k=>if k=true then gb ρ else .ok (.bl false):=rfl
theorem Lr:gOr ga gb ρ=ga ρ>>=fun x=>asB x>>=fun k=>if k=true then .ok (.bl true) else gb ρ:=rfl
theorem HH:H9 ga ρ=ga ρ>>=fun x=>asB x>>=fun k=>.ok (.bl (!k)):=rfl
theorem FC:HG gt gu ρ=gt ρ>>=fun k=>if k=true then gu ρ else .ok false:=rfl
theorem JA:qV gt gu ρ=gt ρ>>=fun k=>if k=true then .ok true else gu ρ:=rfl
theorem JL:gIf gt ga gb ρ=gt ρ>>=fun k=>if k=true then ga ρ else gb ρ:=rfl
theorem JY:gSl ga go gp ρ=ga ρ>>=fun x=>go ρ>>=fun l=>gp ρ>>=fun u=>ofO (Ef l u x):=rfl
theorem Hd:gm gl ix gt ga ρ=gl ρ>>=fun items=>fM gt ga items (hU ix ρ)>>=fun ds=>if ds.length<=sizeLine then .ok ds else .no:=rfl
theorem yM {h:List D->R D}:aK 1 h (aa ga fun _=>.ok []) ρ=ga ρ>>=fun x=>h [x]:=Cf
theorem DK {h:List D->R D}:aK 2 h (aa ga (aa gb fun _=>.ok [])) ρ=ga ρ>>=fun x=>gb ρ>>=fun y=>h [x,y]:=wZ
theorem Dh {h:List D->R D}:aK 3 h (aa ga (aa gb (aa gc fun _=>.ok []))) ρ=ga ρ>>=fun x=>gb ρ>>=fun y=>gc ρ>>=fun z=>h [x,y,z]:=xc
theorem C1 {h:List D->R D} {gd:Ev->R D}:aK 4 h (aa ga (aa gb (aa gc (aa gd fun _=>.ok [])))) ρ=ga ρ>>=fun x=>gb ρ>>=fun y=>gc ρ>>=fun z=>gd ρ>>=fun u=>h [x,y,z,u]:=by
 unfold aK
 simp only [pP]
 cases ga ρ <;> try rfl
 simp only [R.ok_bind]
 cases gb ρ <;> try rfl
 simp only [R.ok_bind]
 cases gc ρ <;> try rfl
 simp only [R.ok_bind]
 cases gd ρ <;> rfl
end
theorem JM (i:Nat) (ga:Ev->R D) (ρ:Ev):KP i ga ρ=(ownAt ρ i).out ρ fun ds=>(ga ρ).out ρ fun d=>(asL d).out ρ fun es=>if ds.length+es.length<=sizeLine then .nx (ρ.set i (some (.own (ds++es)))) else .no:=rfl
theorem Ju (i:Nat) (ga:Ev->R D) (ρ:Ev):Hy i ga ρ=(ownAt ρ i).out ρ fun ds=>(ga ρ).out ρ fun d=>if ds.length<sizeLine then .nx (ρ.set i (some (.own (ds++[d])))) else .no:=rfl
theorem Jr (i j:Nat) (gl:Ev->R (List D)) (ρ:Ev):IX i j gl ρ=(gl ρ).out ρ fun ds=>(nO [i,j] ds ρ).out ρ .nx:=rfl
theorem Kx (ds:List D) (ρ:Ev):ownAt (some (.own ds)::ρ) 0=.ok ds:=rfl
theorem La (a0:Option Sl) (ds:List D) (ρ:Ev):ownAt (a0::some (.own ds)::ρ) 1=.ok ds:=rfl
theorem LN (a0 a1:Option Sl) (ds:List D) (ρ:Ev):ownAt (a0::a1::some (.own ds)::ρ) 2=.ok ds:=rfl
theorem asl (ds:List D):asL (.lst false ds)=.ok ds:=rfl
theorem KD (a0:Option Sl) (ds:List D) (ρ:Ev):frz 1 (a0::some (.own ds)::ρ)=a0::some (.val (.lst false ds))::ρ:=rfl
noncomputable def g3k (f':D->D->Option D) (r:R D) (y:D):D->R D
 | .bl true=>r>>=fun w=>ofO (f' y w)
 | .bl false=>.ok (.bl false)
 | _=>.no
theorem LK (f f':D->D->Option D) (ga gb gc:Ev->R D) (ρ:Ev):g3 f f' ga gb gc ρ=ga ρ>>=fun x=>gb ρ>>=fun y=>ofO (f x y)>>=g3k f' (gc ρ) y:=rfl
theorem Jf (f':D->D->Option D) (r:R D) (y:D) (b:Bool):g3k f' r y (.bl b)=if b=true then (r>>=fun w=>ofO (f' y w)) else .ok (.bl false):=by cases b <;> rfl
theorem sv2 (i j:Nat) (x y:D) (ρ:Ev):nO [i,j] [x,y] ρ=.ok ((ρ.set i (some (.val x))).set j (some (.val y))):=rfl
theorem KZ (a0 a1 a2 a3:Option Sl) (ds:List D) (ρ:Ev):frz 4 (a0::a1::a2::a3::some (.own ds)::ρ)=a0::a1::a2::a3::some (.val (.lst false ds))::ρ:=rfl
theorem zj (ρ:Ev) (k:Ev->O):(O.nx ρ).seq k=k ρ:=rfl
theorem IZ (d:D) (k:Ev->O):(O.rt d).seq k=.rt d:=rfl
theorem KF (C:Addr) (ρ:Ev) (k:Ev->O):(O.ex C ρ).seq k=.ex C ρ:=rfl
theorem K5 (k:Ev->O):(O.no).seq k=.no:=rfl
theorem J5 (d:D):az (.rt d)=.ok d:=rfl
theorem KM (ρ:Ev):az (.nx ρ)=.ok .non:=rfl
theorem KC (C:Addr) (ρ:Ev):az (.ex C ρ)=.ex C:=rfl
theorem KO (k:Bool):asB (.bl k)=.ok k:=rfl
theorem rh (i:Int):asI (.int i)=.ok i:=rfl
theorem K1 (k:Bool):jM (.bl k)=.ok k:=rfl
theorem rd7 (a0 a1 a2 a3 a4 a5 a6:Option Sl) (d:D) (ρ:Ev):rdV (a0::a1::a2::a3::a4::a5::a6::some (.val d)::ρ) 7=.ok d:=rfl
theorem rd8 (a0 a1 a2 a3 a4 a5 a6 a7:Option Sl) (d:D) (ρ:Ev):rdV (a0::a1::a2::a3::a4::a5::a6::a7::some (.val d)::ρ) 8=.ok d:=rfl
theorem rd9 (a0 a1 a2 a3 a4 a5 a6 a7 a8:Option Sl) (d:D) (ρ:Ev):rdV (a0::a1::a2::a3::a4::a5::a6::a7::a8::some (.val d)::ρ) 9=.ok d:=rfl
theorem LB (a0 a1 a2 a3 a4 a5 a6 a7 a8 a9:Option Sl) (d:D) (ρ:Ev):rdV (a0::a1::a2::a3::a4::a5::a6::a7::a8::a9::some (.val d)::ρ) 10=.ok d:=rfl
theorem KB (a0 a1 a2 a3 a4 a5 a6 a7 a8 a9 a10:Option Sl) (d:D) (ρ:Ev):rdV (a0::a1::a2::a3::a4::a5::a6::a7::a8::a9::a10::some (.val d)::ρ) 11=.ok d:=rfl
theorem Lx (a0 a1 a2 a3 a4 a5 a6 a7 a8 a9 a10 a11:Option Sl) (d:D) (ρ:Ev):rdV (a0::a1::a2::a3::a4::a5::a6::a7::a8::a9::a10::a11::some (.val d)::ρ) 12=.ok d:=rfl
section
variable (i j:Int)
theorem JX:bX (.int i) (.int j)=some (.int (i+j)):=by simp only [bX]
theorem Ik:wf (.int i) (.int j)=some (.int (i - j)):=by simp only [wf]
theorem K8:leD (.int i) (.int j)=some (.bl (decide (i<=j))):=by simp only [leD]
theorem K0:ltD (.int i) (.int j)=some (.bl (decide (i<j))):=by simp only [ltD]
theorem Lo:gtD (.int i) (.int j)=some (.bl (decide (j<i))):=by simp only [gtD]
theorem KS:geD (.int i) (.int j)=some (.bl (decide (j<=i))):=by simp only [geD]
theorem K6:eqF (.int i) (.int j)=some (.bl (i==j)):=by simp only [eqF,eqD,Option.map_some]
theorem Kh:neF (.int i) (.int j)=some (.bl (!(i==j))):=by simp only [neF,eqD,Option.map_some]
end
theorem BW {i j:Int} (h : -(2 ^ 64)<i/\i<2 ^ 64):gN (.int i) (.int j)=some (.int (i * j)):=by simp only [gN];rw [if_pos (Or.inl h)]
theorem zQ {x y:List Nat} (h:x.length+y.length<=sizeLine):bX (.str x) (.str y)=some (.str (x++y)):=by simp only [bX];rw [if_pos h]
theorem Kq (x y:List Nat):eqF (.str x) (.str y)=some (.bl (x==y)):=by simp only [eqF,eqD,Option.map_some]
theorem LJ (x y:List Nat):neF (.str x) (.str y)=some (.bl (!(x==y))):=by simp only [neF,eqD,Option.map_some]
theorem ud {α:Type} (n:Nat) (x:α):(List.replicate n [x]).flatten=List.replicate n x:=by
 induction n with
 | zero=>rfl
 | succ n ih=>rw [List.replicate_succ,List.flatten_cons,ih];rfl
theorem bL:(1000:Nat)<=sizeLine:=by decide
theorem JK {c n:Nat} (h:n<=1000):gN (.str [c]) (.int (n:Int))=some (.str (List.replicate n c)):=by
 have:=bL
 simp only [gN]
 rw [if_pos (by refine ⟨by omega,by omega,?_⟩;simp;omega),Int.toNat_natCast,ud]
theorem JE {c:D} {n:Nat} (h:n<=1000):gN (.lst false [c]) (.int (n:Int))=some (.lst false (List.replicate n c)):=by
 have:=bL
 simp only [gN]
 rw [if_pos (by refine ⟨by omega,by omega,?_⟩;simp;omega),Int.toNat_natCast,ud]
theorem Ll {xs:List D} (h:xs[k]?=some d):ixD (.tup xs) (.int (k:Int))=some d:=by simp only [ixD];exact rX h
theorem J8 {xs:List D} (h:xs[k]?=some d):ixD (.lst fz xs) (.int (k:Int))=some d:=by simp only [ixD];exact rX h
theorem Ke {x:List Nat} {c:Nat} (h:x[k]?=some c):ixD (.str x) (.int (k:Int))=some (.str [c]):=by simp only [ixD];rw [rX h];rfl
theorem AD {α:Type} (xs:List α) (k:Nat):jh xs none (some (k:Int))=xs.take k:=by
 unfold jh
 rw [HT.sIx_none,HT.sIx_nat,List.drop_zero,Nat.sub_zero]
 by_cases h:k<=xs.length
 ·rw [Nat.min_eq_left h]
 ·rw [Nat.min_eq_right (by omega),List.take_length,List.take_of_length_le (by omega)]
theorem DJ {α:Type} (xs:List α) (k:Nat):jh xs (some (k:Int)) none=xs.drop k:=by
 unfold jh
 rw [HT.sIx_none,HT.sIx_nat]
 by_cases h:k<=xs.length
 ·rw [Nat.min_eq_left h,List.take_of_length_le (by simp)]
 ·rw [Nat.min_eq_right (by omega),List.drop_length,List.take_nil,List.drop_of_length_le (by omega)]
theorem Ig (lo hi:Option Int) (x:List Nat):Ef lo hi (.str x)=some (.str (jh x lo hi)):=rfl
theorem Ix (lo hi:Option Int) (x:List D):Ef lo hi (.tup x)=some (.tup (jh x lo hi)):=rfl
theorem Gn (fz:Bool) (x:List D):fu [.lst fz x]=some (.int x.length):=rfl
theorem IY (x:List D):fu [.tup x]=some (.int x.length):=rfl
theorem II (x:List Nat):fu [.str x]=some (.int x.length):=rfl
theorem m_t (h:ds.length<=1000):mkT ds=.ok (.tup ds):=if_pos (Nat.le_trans h bL)
theorem tt {n:Nat} (h:n<=1000):cu [.int (n:Int)]=.ok ((List.range n).map fun (i:Nat)=>D.int (i:Int)):=by
 have e:cu [.int (n:Int)]=if -(2 ^ 62)<=(n:Int)/\(n:Int)<2 ^ 62 then .ok ((List.range (n:Int).toNat).map fun i=>D.int (0+(i:Nat))) else .no:=by simp only [cu]
 rw [e,if_pos (by constructor <;> omega),Int.toNat_natCast]
 simp only [Int.zero_add]
theorem Lc {α:Type} (a v:α) (l:List α):(a::l).set 0 v=v::l:=rfl
theorem tR (asg:D->Ev->R Ev) (g:Ev->O) (ρ:Ev):cN asg g [] ρ=.nx ρ:=rfl
theorem iz {g:Ev->O} {ρ1 ρ2:Ev} (h1:asg d ρ=.ok ρ1) (h2:g ρ1=.nx ρ2):cN asg g (d::ds) ρ=cN asg g ds ρ2:=by
 rw [cN,h1]
 show (match g ρ1 with
  | .nx ρ2=>cN asg g ds ρ2
  | .ct ρ2=>cN asg g ds ρ2
  | .bk ρ2=>O.nx ρ2
  | .rt d=>O.rt d
  | .re d ρ2=>.re d ρ2
  | .ex C ρ2=>O.ex C ρ2
  | .no=>O.no)=_
 rw [h2]
theorem qf {e:Expr} {p:Pos} (hg:Gl X "tuple") (hm:X.mg "tuple"=none) (ha:PFA X [e] gl) (he:starEach [e] X.env=(false,eval e X.env)::starEach [] X.env:=by rfl) :
  PF X (.Call (.Name "tuple" p) [e] [] pos) (gOf kK gl):=xj nc (zJ _) hg hm PyProof.Rows.Boot.«tuple» ha (by decide) (by decide) he rfl
noncomputable def ly:D->List D->Option D
 | .str x,[.int i]=>if -1000<=i/\i<=1000 then some (.str (x++List.replicate (i.toNat - x.length) 32)) else none
 | _,_=>none
noncomputable def Ch:V->List V->Hp->VK->Prop:=fun x vs H Q=>∃ (y:Str) (i:Int),x=.str y/\vs=[.int i]/\-1000<=i/\i<=1000/\Q (.str (Txt.ljust y i)) H
theorem Bg:MtR X "str.ljust" Ch:=by
 intro pins s σ H x xs v us Q I rx rv ⟨y,i,ex,exs,h1,h2,q⟩
 subst ex exs
 obtain ⟨t,rfl⟩:=rx
 obtain ⟨u,rfl,r1⟩:=rv.one
 obtain ⟨t',rfl⟩:=r1
 exact SC.ljust (padOk_of (by omega) (by omega)) (fun t'' k=>⟨.str _,H,I.tok _,⟨_,rfl⟩,q⟩)
theorem pb (y:Str) (i:Int):(Txt.ljust y i).cps.toList=y.cps.toList++List.replicate (i.toNat - y.cps.toList.length) 32:=by
 unfold Txt.ljust
 have hl:y.length=y.cps.toList.length:=by simp [Str.length]
 split
 ·rename_i h
  have:i.toNat - y.cps.toList.length=0:=by omega
  rw [this];simp
 ·simp [Builtin.Str.padded,Str.length]
theorem Af (K:PySem.W.Frag):HS K "str" Ch ly:=by
 intro G H x xs dx ds d Q s rx rs e q
 unfold ly at e
 split at e
 ·split at e
  ·rename_i hi
   cases e
   obtain ⟨v,rfl,r1⟩:=rs.one
   obtain ⟨y,rfl,ey,hy⟩:=rx.str_inv
   obtain rfl:=r1.int_inv
   refine ⟨y,_,rfl,rfl,hi.1,hi.2,q _ G H (.refl s) (.strL (by rw [pb,ey]) ?_)⟩
   have h1:y.length=y.cps.toList.length:=by simp [Str.length]
   have:=bL
   rw [h1,ey] at hy
   simp;omega
  ·cases e
 ·cases e
theorem Eu {o e:Expr} {ga:Ev->R D} {ap cp:Pos} (ho:PF X o ga) (ha:PFA X [e] gl) (hbase:attributeBase o "ljust" X.env (eval o X.env)=eval o X.env:=by rfl)
 (hfew:((backTo cp (starEach [e] X.env)).all (fun x=>!x.1) && (backToKw cp (keywordEach [] X.env)).all (fun x=>x.1.isSome)
 && decide ([e].length+([]:List Keyword).length+(if ([]:List Keyword).isEmpty then 0 else 1)<30))=true:=by rfl)
 (hline:(ap.endLine==cp.line)=true:=by rfl) (hs:starEach [e] X.env=(false,eval e X.env)::starEach [] X.env:=by rfl) :
  PF X (.Call (.Attribute o "ljust" ap) [e] [] cp) (lU "str" ly ga gl):=xU PySem.F.plainAttrs_str PySem.F.slot_str_ljust PySem.F.type_str_ljust Bg (Af _) ho ha hbase hfew hline hs rfl
theorem LH (a0 a1 a2 a3 a4 a5 a6 a7 a8 a9 a10 a11 a12:Option Sl) (d:D) (ρ:Ev):rdV (a0::a1::a2::a3::a4::a5::a6::a7::a8::a9::a10::a11::a12::some (.val d)::ρ) 13=.ok d:=rfl
theorem LL (a0 a1 a2 a3 a4 a5 a6 a7 a8 a9 a10 a11 a12 a13:Option Sl) (d:D) (ρ:Ev):rdV (a0::a1::a2::a3::a4::a5::a6::a7::a8::a9::a10::a11::a12::a13::some (.val d)::ρ) 14=.ok d:=rfl
theorem IL (i:Nat) (gt:Ev->R Bool) (g1 g2:Ev->O) (ρ:Ev):LG i gt g1 g2 ρ=(fK (gt (frz i ρ))).out ρ fun k=>if k=true then g1 ρ else g2 ρ:=rfl
theorem Hw (j i:Nat) (ga:Ev->R D) (ρ:Ev):Dt j i ga ρ=(fK (ga (frz j ρ))).out ρ fun d=>if fl 10 d=true then .nx (ρ.set i (some (.val d))) else .no:=rfl
theorem Fp (j i:Nat) (ga:Ev->R D) (ρ:Ev):HX j i ga ρ=(ownAt ρ i).out ρ fun ds=>(fK (ga (frz j ρ))).out ρ fun d=>if ds.length<sizeLine/\fl 10 d=true then .nx (ρ.set i (some (.own (ds++[d])))) else .no:=rfl
noncomputable def FE (i:Nat) (ρ:Ev) (ds:List D) (d:D):Option Nat->O
 | some n=>if fl 10 d=true then .nx (ρ.set i (some (.own (ds.set n d)))) else .no
 | none=>.no
theorem G8 (i:Nat) (gk ga:Ev->R D) (ρ:Ev):CN i gk ga ρ=(ownAt ρ i).out ρ fun ds=>(fK (ga (frz i ρ))).out ρ fun d=>(fK (gk (frz i ρ)>>=asI)).out ρ fun k=>FE i ρ ds d (ixN ds.length k):=rfl
theorem uU (i:Nat) (ρ:Ev) (ds:List D) (d:D) (n:Nat):FE i ρ ds d (some n)=if fl 10 d=true then .nx (ρ.set i (some (.own (ds.set n d)))) else .no:=rfl
theorem GJ (gl:Ev->R (List D)) (ρ:Ev):Dw gl ρ=gl ρ>>=DI:=rfl
theorem Ij (xs:List D):DI [.tup xs]=.ok xs:=rfl
theorem DY (ga gb:Ev->R D) (ρ:Ev):Fj ga gb ρ=ga ρ>>=fun x=>gb ρ>>=fun c=>Cd x c:=rfl
theorem DG (n:Nat) (asg:D->Ev->R Ev) (gl:Ev->R (List D)) (ix:List Nat) (gt:Ev->R Bool) (ga:Ev->R D) (ρ:Ev):FA n asg gl ix gt ga ρ=gl ρ>>=fun items=>gD asg gt ga items (hX n ix ρ)>>=fun ds=>if ds.length<=sizeLine then .ok ds else .no:=rfl
theorem GT (i j:Nat) (ga:Ev->R D) (gl:Ev->R (List D)) (ρ:Ev):Jt i j ga gl ρ=(ga ρ).out ρ fun d=>(gl ρ).out ρ fun ds=>.nx ((ρ.set i (some (.val d))).set j (some (.own ds))):=rfl
theorem IQ (f:Bool) (lo hi:Option Int) (x:List D):Ef lo hi (.lst f x)=some (.lst false (jh x lo hi)):=rfl
theorem HQ (ga gs:Ev->R D) (ρ:Ev):Lf ga gs ρ=ga ρ>>=fun x=>gs ρ>>=fun k=>HA x k:=rfl
theorem JW (x:List Nat):HA (.str x) (.int (-1))=.ok (.str x.reverse):=rfl
theorem IG (f:Bool) (x:List D):HA (.lst f x) (.int (-1))=.ok (.lst false x.reverse):=rfl
theorem Il (f:Bool) (xs:List D):DI [.lst f xs]=.ok xs:=rfl
noncomputable def HI (i:Nat):O->O
 | .nx ρ=>.nx (ρ.set i none)
 | .rt d=>.rt d
 | _=>.no
noncomputable def Fa (gs:Ev->O) (f:Addr->Option Bool) (i:Nat):O->O
 | .ex C ρ=>(match f C with
  | some true=>HI i (gs (ρ.set i (some (.val (.exc C)))))
  | _=>.no)
 | o=>o
theorem JI (gb gs:Ev->O) (f:Addr->Option Bool) (i:Nat) (ρ:Ev):Kn gb gs f i ρ=Fa gs f i (gb ρ):=by
 unfold Kn Fa
 cases gb ρ <;> rfl
theorem Cu (gs:Ev->O) (f:Addr->Option Bool) (i:Nat) (ρ:Ev):Fa gs f i (.nx ρ)=.nx ρ:=rfl
theorem Di {gs:Ev->O} {f:Addr->Option Bool} (h:f C=some true):Fa gs f i (.ex C ρ)=HI i (gs (ρ.set i (some (.val (.exc C))))):=by
 simp only [Fa,h]
theorem D0 (i:Nat) (ρ:Ev):HI i (.nx ρ)=.nx (ρ.set i none):=rfl
noncomputable def GM (gs:List (Ev->R D)) (out:List Nat) (ρ:Ev):D->R D
 | .str x=>if (out++x).length<=sizeLine then sV gs (out++x) ρ else .no
 | _=>.no
theorem FT (gs:List (Ev->R D)) (ρ:Ev):IE gs ρ=sV gs [] ρ:=rfl
theorem CM (out:List Nat) (ρ:Ev):sV [] out ρ=.ok (.str out):=rfl
theorem DZ (g:Ev->R D) (gs:List (Ev->R D)) (out:List Nat) (ρ:Ev):sV (g::gs) out ρ=g ρ>>=GM gs out ρ:=rfl
theorem CZ (gs:List (Ev->R D)) (out:List Nat) (ρ:Ev) (x:List Nat):GM gs out ρ (.str x)=if (out++x).length<=sizeLine then sV gs (out++x) ρ else .no:=rfl
theorem Jo (x:List Nat):KI (.str x)=.ok (.str x):=rfl
theorem GX (j i:Nat) (gl:Ev->R (List D)) (ρ:Ev):HF j i gl ρ=(fK (gl (frz j ρ))).out ρ fun ds=>if ds.all (fl 10)=true then .nx (ρ.set i (some (.own ds))) else .no:=rfl
theorem Jm (n:Nat) (gt:Ev->R Bool) (g:Ev->O) (ρ:Ev):FJ n gt g ρ=uF gt g n ρ:=rfl
theorem CY (gi:Ev->R (List D)) (ix:List Nat) (gt:Ev->R Bool) (ge:Ev->R D) (ρ:Ev):Fg gi ix gt ge ρ=gi ρ>>=fun items=>if items.length<=sizeLine then tO (lX 0) gt ge items (hU ix ρ) else .no:=rfl
theorem Dx (C:Addr) (i k:Nat) (gb:Ev->R D) (ρ:Ev):tM C i k gb ρ=(oY C ρ i>>=fun fs=>fldL fs k>>=fun ds=>gb ρ>>=fun d=>ofO (ixD (.lst false ds) d)):=rfl
theorem Au (C:Addr) (i k:Nat) (ρ:Ev):nh C i k ρ=(oY C ρ i>>=fun fs=>fldL fs k>>=fun ds=>.ok (.int ds.length)):=rfl
theorem Gg (C:Addr) (i k:Nat) (ga:Ev->R D) (ρ:Ev):Dv C i k ga ρ=(qW C ρ i).out ρ fun o=>(fldL o.2 k).out ρ fun ds=>(ga ρ).out ρ fun d=>if ds.length<sizeLine then .nx (ρ.set i (some (.obj true C o.1 (je k (.own (ds++[d])) o.2)))) else .no:=rfl
theorem Gq (C:Addr) (i k:Nat) (gl:Ev->R (List D)) (ρ:Ev):xz C i k gl ρ=(qW C ρ i).out ρ fun o=>(gl ρ).out ρ fun ds=>if o.2.length<900 then .nx (ρ.set i (some (.obj true C o.1 (je k (.own ds) o.2)))) else .no:=rfl
theorem GF (ga:Ev->R D) (ρ:Ev):El ga ρ=(ga ρ).out ρ fun d=>.re d ρ:=rfl
theorem CS (C:Addr) (i n:Nat) (F:MF) (gl:Ev->R (List D)) (ρ:Ev):EY C i n F gl ρ=(oY C ρ i>>=fun fs=>gl ρ>>=fun ds=>if ds.length=n then (F fs ds).read else .no):=rfl
theorem zo (C:Addr) (i:Nat) (F:MF) (ρ:Ev):dF C i F ρ=(oY C ρ i>>=fun fs=>(F fs []).read):=rfl
theorem Dp (C:Addr) (i n:Nat) (F:MF) (gl:Ev->R (List D)) (ρ:Ev):vo C i n F gl ρ=(qW C ρ i).out ρ fun o=>(gl ρ).out ρ fun ds=>if ds.length=n then (F o.2 ds).out C o.1 i ρ else .no:=rfl
theorem CI (C:Addr) (i:Nat) (F:MF) (ρ:Ev):GB C i F ρ=(qW C ρ i).out ρ fun o=>(F o.2 []).out C o.1 i ρ:=rfl
theorem Lv (d:D) (ρ:Ev) (k:Ev->O):(O.re d ρ).seq k=.re d ρ:=rfl
theorem IA (d:D):RM.read (.rd d)=.ok d:=rfl
theorem JR (C:Addr):RM.read (.ex C)=.ex C:=rfl
theorem E6 (d:D) (fs:List (Nat×Fd)) (C p:Addr) (i:Nat) (ρ:Ev):RM.out (.ok d fs) C p i ρ=.nx (ρ.set i (some (.obj true C p fs))):=rfl
theorem Fw (d:D) (C p:Addr) (i:Nat) (ρ:Ev):RM.out (.rd d) C p i ρ=.nx ρ:=rfl
theorem GR (E C p:Addr) (i:Nat) (ρ:Ev):RM.out (.ex E) C p i ρ=.ex E ρ:=rfl
end L2
section
open L2
set_option compiler.extract_closed false in
local macro_rules | `(tactic| walk_at "run")=>`(tactic| simp -implicitDefEqProofs only [rvz,ciz,nlz,csz,E0,E5,Hs,Hh,CY,↓yM,↓DK,↓Dh,↓C1,AO,LD,FI,Ht,KH,JV,E7,CB,Db,Jj,IV,B8,KG,pP,D9,HL,Lh,Kt,Lj,FY,Hu,LA,E2,Lr,HH,FC,JA,JL,JY,Hd,JM,Ju,Fp,IL,Hw,G8,lj,GJ,DY,DG,GT,IQ,HQ,JW,IG,uU,Ij,Il,LH,LL,and_self,Jr,Kx,La,LN,asl,KD,KZ,LK,Jf,sv2,zj,IZ,KF,K5,J5,KM,KC,KO,rh,K1,rd0,rd1,rd2,rd3,rd4,rd5,rd6,rd7,rd8,rd9,LB,KB,Lx,R.ok_bind,R.ok_out,R.ex_bind,R.ex_out,ck,JX,Ik,K8,K0,Lo,KS,K6,Kh,Kq,LJ,Gn,IY,II,Ig,Ix,Lc,List.set_cons_succ,List.length_nil,List.length_cons,List.cons_append,List.nil_append,Nat.reduceAdd,Nat.reduceBEq,Bool.not_true,Bool.not_false,Bool.false_eq_true,if_false,if_true,GX,Jm,JI,Cu,Di,D0,FT,CM,DZ,CZ,Jo,Int.reduceLT,Int.reduceLE,Int.reduceBEq,decide_true,decide_false,Dx,Au,Gg,Gq,GF,CS,zo,Dp,CI,Lv,IA,JR,E6,Fw,GR, *])
namespace Q
open L2
open PySem (sizeLine Addr)
noncomputable def Ko:D->Bool
 | .int _=>true
 | _=>false
noncomputable def AE:List D->R D
 | [.exc _]=>.no
 | [.dct _ _]=>.no
 | [d]=>.ok (.bl (Ko d))
 | _=>.no
noncomputable def dY:Ev->O:=(aH (cA (mr (aI (iJ isInt) (rvz 0)) (H9 (aI (iJ (·=="bool")) (rvz 0))))) oNx)
theorem sk:∀ ds:List D,ds.length=1->AE ds=.no\/az (dY  (ax 1 ds))=AE ds:=by
 intro ds hl
 unfold dY
 match ds,hl with
 | [d],_=>cases d <;> first|exact Or.inr rfl|exact Or.inl rfl
noncomputable def inB (d:D) (lo hi:Int):Bool:=match d with
 | .int i=>decide (lo<=i) && decide (i<=hi)
 | _=>false
noncomputable def zg:List D->R D
 | [.exc _,_,_]=>.no
 | [.dct _ _,_,_]=>.no
 | [d,.int lo,.int hi]=>.ok (.bl (inB d lo hi))
 | _=>.no
noncomputable def dn (eS:List D->R D):Ev->O:=(aH (cA (mr (aK 1 eS (aa (rvz 0) nlz)) (g3 leD leD (rvz 1) (rvz 0) (rvz 2)))) oNx)
theorem qT:∀ ds:List D,ds.length=3->zg ds=.no\/az (dn AE (ax 3 ds))=zg ds:=by
 intro ds hl
 unfold dn
 match ds,hl with
 | [d,l,h],_=>
  cases d <;> first|exact Or.inl rfl|skip
  all_goals (cases l <;> first|exact Or.inl rfl|skip)
  all_goals (cases h <;> first|exact Or.inl rfl|skip)
  all_goals first|exact Or.inr rfl|skip
  rename_i i lo hi hl
  refine Or.inr ?_
  show az (aH _ oNx [some (.val (.int i)),some (.val (.int lo)),some (.val (.int hi))])=R.ok (D.bl (inB (.int i) lo hi))
  by_cases h1:lo<=i <;> simp [aH,cA,mr,aK,aa,g3,rdV,AE,Ko,asB,leD,inB,az,O.seq,h1]
noncomputable def plain (x:List Nat):Bool:=x.all fun c=>decide (32<=c) && decide (c<=126)
noncomputable def Lb:D->Bool
 | .str x=>plain x
 | _=>false
noncomputable def jK:List D->R D
 | [.exc _]=>.no
 | [.dct _ _]=>.no
 | [.str x]=>if x.length<=sizeLine then .ok (.bl (plain x)) else .no
 | [d]=>.ok (.bl false)
 | _=>.no
noncomputable def eB:Ev->O:=(aH (cA (mr (aI (iJ (·=="str")) (rvz 0)) (gOf Ad (aa (cz (gm (aI bU (rvz 0)) [] (fun _=>R.ok true) (g3 leD leD (csz [32]) (rvz 0) (csz [126])))) nlz)))) oNx)
theorem rS:∀ ds:List D,ds.length=1->jK ds=.no\/az (eB  (ax 1 ds))=jK ds:=by
 intro ds hl
 unfold eB
 match ds,hl with
 | [d],_=>
  cases d <;> first|exact Or.inl rfl|exact Or.inr rfl|skip
  rename_i x hl
  by_cases hx:x.length<=sizeLine
  ·refine Or.inr ?_
   have e:fM (fun _=>R.ok true) (g3 leD leD (fun _=>.ok (.str [32])) (rvz 0) (fun _=>.ok (.str [126]))) (x.map fun c=>D.str [c]) [none]=.ok ((x.map fun c=>D.str [c]).map fun d=>.bl (match d with|.str [c]=>decide (32<=c) && decide (c<=126)|_=>false)):=by
    refine iW _ [] _ none fun d m=>⟨rfl,?_⟩
    obtain ⟨c,_,rfl⟩:=List.mem_map.1 m
    show (ofO (some (D.bl (!decide (([c]:List Nat)<[32]))))>>=fun z=>match z with
     | .bl true=>ofO (some (D.bl (!decide (([126]:List Nat)<[c]))))
     | .bl false=>R.ok (D.bl false)
     | _=>R.no:R D)=_
    rw [wD,wD,ck,R.ok_bind]
    cases h1:decide (32<=c) <;> simp [h1]
   have e2:jK [.str x]=.ok (.bl (plain x)):=if_pos hx
   rw [e2]
   show az (aH _ oNx [some (.val (.str x))])=_
   simp only [aH,cA,mr,aI,gOf,aa,cz,gm,rd0,iJ,tyN,asB,hU,bU,R.ok_bind,List.map_nil]
   simp only [beq_self_eq_true,if_true,e,R.ok_bind]
   simp only [List.length_map,hx,if_true,R.ok_bind,jX,ck,R.ok_out,az,O.seq,List.all_map,plain]
   rfl
  ·exact Or.inl (if_neg hx)
noncomputable def EU:D->Bool
 | .exc _=>false
 | .dct _ _=>false
 | .str x=>decide (x.length<=sizeLine)
 | _=>true
noncomputable def AX (d:D) (wd:Int):Bool:=match d with
 | .str x=>plain x && ((x.length:Int)==wd)
 | _=>false
noncomputable def we (d:D) (wd:Int):Bool:=match d with
 | .tup xs=>decide (1<=xs.length) && decide (xs.length<=12) && xs.all fun r=>AX r wd
 | _=>false
noncomputable def yK:List D->R D
 | [.exc _,_]=>.no
 | [.dct _ _,_]=>.no
 | [.tup xs,.int wd]=>if xs.all EU=true then .ok (.bl (we (.tup xs) wd)) else .no
 | [d,.int wd]=>.ok (.bl false)
 | _=>.no
theorem uO (h:EU d=true):jK [d]=.ok (.bl (Lb d)):=by
 cases d <;> first|rfl|(cases h;done)|skip
 exact if_pos (of_decide_eq_true h)
noncomputable def cq (bj:List D->R D):Ev->O:=(aH (oIf (qV (gBn (aI jM (aI (iJ (·=="tuple")) (rvz 0)))) (gBn (gB3 leD leD (ciz 1) (gOf fu (aa (rvz 0) nlz)) (ciz 12)))) (aH (cA (fun _=>R.ok (D.bl false))) oNx) oNx) (aH (cA (gOf Ad (aa (cz (gm (aI bU (rvz 0)) [1] (fun _=>R.ok true) (mr (aK 1 bj (aa (rvz 0) nlz)) (g2 eqF (gOf fu (aa (rvz 0) nlz)) (rvz 1))))) nlz))) oNx))
theorem jI:∀ ds:List D,ds.length=2->yK ds=.no\/az (cq jK (ax 2 ds))=yK ds:=by
 intro ds hl
 unfold cq
 match ds,hl with
 | [d,l],_=>
  cases d <;> first|exact Or.inl rfl|skip
  all_goals (cases l <;> first|exact Or.inl rfl|exact Or.inr rfl|skip)
  rename_i xs wd hl
  by_cases hf:xs.all EU=true
  ·refine Or.inr ?_
   have e2:yK [.tup xs,.int wd]=.ok (.bl (we (.tup xs) wd)):=if_pos hf
   rw [e2]
   have e:fM (fun _=>R.ok true) (mr (aK 1 jK (aa (rvz 0) fun x=>R.ok [])) (g2 eqF (gOf fu (aa (rvz 0) fun x=>R.ok [])) fun ρ=>rdV ρ 1)) xs [none,some (.val (.int wd))]=.ok (xs.map fun d=>.bl (AX d wd)):=by
    refine iW _ [some (.val (.int wd))] xs none fun d m=>⟨rfl,?_⟩
    have hd:=List.all_eq_true.1 hf d m
    simp only [mr,aK,aa,rd0,R.ok_bind,List.length_singleton,if_true,uO hd,asB]
    cases d <;> first|rfl|skip
    rename_i x
    show (if plain x=true then R.ok (D.bl ((x.length:Int)==wd)) else R.ok (.bl false))=R.ok (.bl (plain x && ((x.length:Int)==wd)))
    cases plain x <;> rfl
   show az (aH _ _ [some (.val (.tup xs)),some (.val (.int wd))])=_
   have i2:hU [1] [some (.val (.tup xs)),some (.val (.int wd))]=[none,some (.val (.int wd))]:=rfl
   have t1:iJ (fun x=>x=="tuple") (.tup xs)=.ok (.bl true):=rfl
   have t2:jM (.bl true)=.ok true:=rfl
   have t3:fu [.tup xs]=some (.int xs.length):=rfl
   simp only [aH,oIf,qV,gBn,aI,gB3,g3,cA,gOf,aa,cz,gm,rd0,R.ok_bind,R.ok_out,bU,i2,e,t1,t2,t3,ck,leD,Bool.not_true,Bool.false_eq_true,if_false]
   by_cases h1:1<=xs.length
   ·have h1':(1:Int)<=(xs.length:Int):=by omega
    by_cases h2:xs.length<=12
    ·have h2':(xs.length:Int)<=12:=by omega
     have h3:xs.length<=sizeLine:=Nat.le_trans h2 (by decide)
     simp [h1,h1',h2,h2',h3,asB,oNx,O.seq,jX,az,we]
     simp only [aH,cA,gOf,aa,cz,gm,aI,rd0,R.ok_bind,bU,i2,e,List.length_map,h3,if_true,jX,ck,R.ok_out,O.seq]
    ·have h2' : ¬ (xs.length:Int)<=12:=by omega
     simp [h1,h1',h2,h2',asB,oNx,O.seq,az,we]
   ·have h1' : ¬ (1:Int)<=(xs.length:Int):=by omega
    simp [h1,h1',asB,oNx,O.seq,az,we]
  ·exact Or.inl (if_neg hf)
noncomputable def rA (d:D) (wd m:Int):Bool:=match d with
 | .tup [a,b]=>inB a 0 (m - 1) && inB b 0 wd
 | _=>false
noncomputable def pQ:D->Bool
 | .exc _=>false
 | .dct _ _=>false
 | _=>true
noncomputable def mQ:List D->R D
 | [.exc _,_,_]=>.no
 | [.dct _ _,_,_]=>.no
 | [.tup xs,.int wd,.int m]=>if xs.all pQ=true then .ok (.bl (rA (.tup xs) wd m)) else .no
 | [d,.int wd,.int m]=>.ok (.bl false)
 | _=>.no
theorem jp {lo hi:Int} (h:pQ d=true):zg [d,.int lo,.int hi]=.ok (.bl (inB d lo hi)):=by
 cases d <;> first|rfl|(cases h;done)
noncomputable def dX (aP:List D->R D):Ev->O:=(aH (oIf (qV (gBn (aI jM (aI (iJ (·=="tuple")) (rvz 0)))) (gB2 neF (gOf fu (aa (rvz 0) nlz)) (ciz 2))) (aH (cA (fun _=>R.ok (D.bl false))) oNx) oNx) (aH (cA (mr (aK 3 aP (aa (g2 ixD (rvz 0) (ciz 0)) (aa (ciz 0) (aa (g2 wf (rvz 2) (ciz 1)) nlz)))) (aK 3 aP (aa (g2 ixD (rvz 0) (ciz 1)) (aa (ciz 0) (aa (rvz 1) nlz)))))) oNx))
theorem sL:∀ ds:List D,ds.length=3->mQ ds=.no\/az (dX zg (ax 3 ds))=mQ ds:=by
 intro ds hl
 unfold dX
 match ds,hl with
 | [d,l,h],_=>
  cases d <;> first|exact Or.inl rfl|skip
  all_goals (cases l <;> first|exact Or.inl rfl|skip)
  all_goals (cases h <;> first|exact Or.inl rfl|exact Or.inr rfl|skip)
  rename_i xs wd m hl
  by_cases hf:xs.all pQ=true
  ·refine Or.inr ?_
   have e2:mQ [.tup xs,.int wd,.int m]=.ok (.bl (rA (.tup xs) wd m)):=if_pos hf
   rw [e2]
   match xs,hf with
   | [],_=>rfl
   | [_],_=>rfl
   | [a,b],hf=>
    have ha:pQ a=true:=List.all_eq_true.1 hf a (by simp)
    have hb:pQ b=true:=List.all_eq_true.1 hf b (by simp)
    show az ((mr (fun _=>zg [a,.int 0,.int (m - 1)]) (fun _=>zg [b,.int 0,.int wd]) []).out _ .rt |>.seq oNx)=_
    rw [mr,jp ha,jp hb]
    show az ((if inB a 0 (m - 1)=true then R.ok (D.bl (inB b 0 wd)) else R.ok (D.bl false)).out _ .rt |>.seq oNx)=R.ok (D.bl (inB a 0 (m - 1) && inB b 0 wd))
    cases inB a 0 (m - 1) <;> rfl
   | a::b::c::l,_=>
    show az (aH _ _ [some (.val (.tup (a::b::c::l))),some (.val (.int wd)),some (.val (.int m))])=_
    have t1:iJ (fun x=>x=="tuple") (.tup (a::b::c::l))=.ok (.bl true):=rfl
    have t2:jM (.bl true)=.ok true:=rfl
    have t3:fu [.tup (a::b::c::l)]=some (.int (a::b::c::l).length):=rfl
    have t4:neF (.int (a::b::c::l).length) (.int 2)=some (.bl true):=by
     have:(((a::b::c::l).length:Int)==2)=false:=by simp;omega
     show some (D.bl (!(((a::b::c::l).length:Int)==2)))=_
     rw [this];rfl
    simp only [aH,oIf,qV,gBn,aI,gB2,g2,cA,gOf,aa,rd0,R.ok_bind,R.ok_out,t1,t2,t3,t4,ck,Bool.not_true,Bool.false_eq_true,if_false]
    rfl
  ·exact Or.inl (if_neg hf)
noncomputable def qd:D->Bool
 | .exc _=>false
 | .dct _ _=>false
 | .tup [w,r,p]=>pQ w && (match r with|.exc _=>false|.dct _ _=>false|.tup xs=>xs.all EU|_=>true) && (match p with|.exc _=>false|.dct _ _=>false|.tup xs=>xs.all pQ|_=>true)
 | _=>true
noncomputable def screen:D->Bool
 | .tup [a,r,p]=>match a with
  | .int wd=>inB (.int wd) 1 40 && we r wd && (match r with|.tup rows=>rA p wd rows.length|_=>false)
  | _=>false
 | _=>false
noncomputable def kE:List D->R D
 | [d]=>if qd d=true then .ok (.bl (screen d)) else .no
 | _=>.no
noncomputable def du (aP ca eU:List D->R D):Ev->O:=(aH (oIf (qV (gBn (aI jM (aI (iJ (·=="tuple")) (rvz 0)))) (gB2 neF (gOf fu (aa (rvz 0) nlz)) (ciz 3))) (aH (cA (fun _=>R.ok (D.bl false))) oNx) oNx) (aH (fP 1 (g2 ixD (rvz 0) (ciz 0))) (aH (oIf (qV (gBn (aI jM (aK 3 aP (aa (rvz 1) (aa (ciz 1) (aa (ciz 40) nlz)))))) (gBn (aI jM (aK 2 ca (aa (g2 ixD (rvz 0) (ciz 1)) (aa (rvz 1) nlz)))))) (aH (cA (fun _=>R.ok (D.bl false))) oNx) oNx) (aH (cA (aK 3 eU (aa (g2 ixD (rvz 0) (ciz 2)) (aa (rvz 1) (aa (gOf fu (aa (g2 ixD (rvz 0) (ciz 1)) nlz)) nlz))))) oNx))))
theorem pX:∀ ds:List D,ds.length=1->kE ds=.no\/az (du zg yK mQ (ax 2 ds))=kE ds:=by
 intro ds hl
 unfold du
 match ds,hl with
 | [d],_=>
  cases d <;> first|exact Or.inl rfl|exact Or.inr rfl|skip
  rename_i xs hl
  match xs with
  | []=>exact Or.inr rfl
  | [_]=>exact Or.inr rfl
  | [_,_]=>exact Or.inr rfl
  | a::b::c::e::l=>
   refine Or.inr ?_
   show az (aH _ _ [some (.val (.tup (a::b::c::e::l))),none])=_
   have t1:iJ (fun x=>x=="tuple") (.tup (a::b::c::e::l))=.ok (.bl true):=rfl
   have t2:jM (.bl true)=.ok true:=rfl
   have t3:fu [.tup (a::b::c::e::l)]=some (.int (a::b::c::e::l).length):=rfl
   have t4:neF (.int (a::b::c::e::l).length) (.int 3)=some (.bl true):=by
    have:(((a::b::c::e::l).length:Int)==3)=false:=by simp;omega
    show some (D.bl (!(((a::b::c::e::l).length:Int)==3)))=_
    rw [this];rfl
   simp only [aH,oIf,qV,gBn,aI,gB2,g2,cA,gOf,aa,rd0,R.ok_bind,R.ok_out,t1,t2,t3,t4,ck,Bool.not_true,Bool.false_eq_true,if_false]
   rfl
  | [a,r,p]=>
   by_cases hf:qd (.tup [a,r,p])=true
   ·refine Or.inr ?_
    have e2:kE [.tup [a,r,p]]=.ok (.bl (screen (.tup [a,r,p]))):=if_pos hf
    rw [e2]
    simp only [qd,Bool.and_eq_true] at hf
    obtain ⟨⟨ha,hr⟩,hp⟩:=hf
    show az (aH _ _ [some (.val (.tup [a,r,p])),none])=_
    have t1:iJ (fun x=>x=="tuple") (.tup [a,r,p])=.ok (.bl true):=rfl
    have t2:∀ k,jM (.bl k)=.ok k:=fun _=>rfl
    have t3:fu [.tup [a,r,p]]=some (.int 3):=rfl
    have t4:neF (.int 3) (.int 3)=some (.bl false):=rfl
    have x0:ixD (.tup [a,r,p]) (.int 0)=some a:=rfl
    have x1:ixD (.tup [a,r,p]) (.int 1)=some r:=rfl
    have x2:ixD (.tup [a,r,p]) (.int 2)=some p:=rfl
    have s1:([some (.val (.tup [a,r,p])),none]:Ev).set 1 (some (.val a))=[some (.val (.tup [a,r,p])),some (.val a)]:=rfl
    simp only [aH,oIf,fP,qV,gBn,aI,gB2,g2,cA,gOf,aa,rd0,rd1,R.ok_bind,R.ok_out,t1,t2,t3,t4,x0,x1,x2,s1,wZ,xc,ck,asB,oNx,O.seq,Bool.not_true,Bool.false_eq_true,if_false,jp ha]
    cases hi:inB a 1 40 with
    | false=>
     have:screen (.tup [a,r,p])=false:=by
      cases a <;> first|rfl|skip
      simp only [screen,hi,Bool.false_and]
     rw [this];rfl
    | true=>
     cases a <;> first|(cases hi;done)|skip
     rename_i i
     have e3:yK [r,.int i]=.ok (.bl (we r i)):=by
      cases r <;> first|rfl|(cases hr;done)|exact if_pos hr
     cases hq:we r i with
     | false=>
      have:screen (.tup [.int i,r,p])=false:=by simp only [screen,hi,hq,Bool.and_false,Bool.false_and]
      rw [e3,hq,this];rfl
     | true=>
      cases r <;> first|(cases hq;done)|skip
      rename_i rows
      have e4:mQ [p,.int i,.int rows.length]=.ok (.bl (rA p i rows.length)):=by
       cases p <;> first|rfl|(cases hp;done)|exact if_pos hp
      have e5:screen (.tup [.int i,.tup rows,p])=rA p i rows.length:=by simp only [screen,hi,hq,Bool.and_true,Bool.true_and]
      rw [e3,hq,e5]
      show az ((mQ [p,.int i,.int rows.length]).out _ .rt |>.seq _)=_
      rw [e4];rfl
   ·exact Or.inl (if_neg hf)
noncomputable def oj:List D->Option (List Int)
 | []=>some []
 | .int i::ds=>(oj ds).map (i::·)
 | _=>none
theorem tq:∀ {ds:List D} {ns:List Int},oj ds=some ns->ds=ns.map .int
 | [],ns,h=>by cases h;rfl
 | d::ds,ns,h=>by
  cases d <;> first|(cases h;done)|skip
  rename_i i
  cases q:oj ds with
  | none=>simp [oj,q] at h
  | some ms=>simp [oj,q] at h;subst h;rw [tq q];rfl
theorem pK:∀ ns:List Int,oj (ns.map .int)=some ns
 | []=>rfl
 | i::ns=>by simp [oj,pK ns]
noncomputable def cell (ns:List Int) (k:Nat):Int:=if k<ns.length then ns.getD k 0 else if ns.length=0 then 0 else ns.getD (k % ns.length) 0 * 31+k
theorem ur {ns:List Int} (h:k<ns.length):atI (ns.map D.int) (k:Int)=some (.int (ns.getD k 0)):=by
 have e:ixN (ns.map D.int).length (k:Int)=some k:=by
  rw [List.length_map]
  simp [ixN]
  try omega
 rw [atI,e]
 simp [List.getD,h]
theorem tfr {F:List D->R D} {n:Nat}:∀ ds:List D,ds.length=n->F ds=.no\/F ds=F ds:=fun _ _=>.inr rfl
noncomputable def df:Ev->O:=(aH (oIf (gB2 ltD (rvz 1) (gOf fu (aa (rvz 0) nlz))) (aH (cA (g2 ixD (rvz 0) (rvz 1))) oNx) oNx) (aH (oIf (gB2 eqF (rvz 0) (cz (wB nlz))) (aH (cA (ciz 0)) oNx) oNx) (aH (cA (g2 bX (g2 gN (g2 ixD (rvz 0) (g2 wJ (rvz 1) (gOf fu (aa (rvz 0) nlz)))) (ciz 31)) (rvz 1))) oNx)))
noncomputable def zK:List D->R D:=fun ds=>az (df (ax 2 ds))
theorem wm {ns:List Int} {n:Nat}:zK [.lst fz (ns.map .int),.int n]=.ok (.int (cell ns n)):=by
 show az (df [some (.val (.lst fz (ns.map .int))),some (.val (.int n))])=_
 unfold df
 have t3:fu [.lst fz (ns.map .int)]=some (.int ns.length):=by simp [fu]
 by_cases h1:n<ns.length
 ·have h1':(n:Int)<(ns.length:Int):=by omega
  have x1:ixD (.lst fz (ns.map .int)) (.int n)=some (.int (ns.getD n 0)):=ur h1
  simp only [aH,oIf,gB2,g2,cA,gOf,aa,rd0,rd1,R.ok_bind,R.ok_out,t3,x1,ck,ltD,asB,h1',decide_true,if_true,O.seq,az,cell,h1]
 ·have h1' : ¬ (n:Int)<(ns.length:Int):=by omega
  cases ns with
  | nil=>rfl
  | cons a as=>
   have t4:eqF (.lst fz ((a::as).map .int)) (.lst false [])=some (.bl false):=rfl
   have h2:n % (a::as).length<(a::as).length:=Nat.mod_lt _ (by simp)
   have x1:ixD (.lst fz ((a::as).map .int)) (.int ((n % (a::as).length:Nat):Int))=some (.int ((a::as).getD (n % (a::as).length) 0)):=ur h2
   have m1:wJ (.int n) (.int (a::as).length)=some (.int ((n % (a::as).length:Nat):Int)):=by
    have:(0:Int)<((a::as).length:Int):=by simp
    simp only [wJ,this,if_true];rw [Int.natCast_emod]
   have m2:∀ z:Int,gN (.int z) (.int 31)=some (.int (z * 31)):=fun z=>if_pos (Or.inr (by decide))
   have z1:(0:Nat)<=sizeLine:=Nat.zero_le _
   have z2 : ¬ (a::as).length=0:=by simp
   simp only [aH,oIf,gB2,g2,cA,gOf,aa,cz,wB,rd0,rd1,R.ok_bind,R.ok_out,t3,t4,x1,m1,m2,ck,ltD,bX,asB,h1',decide_false,Bool.false_eq_true,if_false,O.seq,oNx,az,cell,h1,List.length_nil,z1,if_true,z2]
noncomputable def drawn (ns:List Int) (k:Nat):Int:=(cell ns k+6151 * ((k:Int)+1)) * 40692 % 2147483399
noncomputable def da (ns:List Int) (k:Nat) (m:Int):Int:=(drawn ns k * drawn ns k+drawn ns k / 31) % 2147483629 % m
theorem bo (ns:List Int) (k:Nat) {m:Int} (h:0<m):0<=da ns k m/\da ns k m<m:=⟨Int.emod_nonneg _ (by omega),Int.emod_lt_of_pos _ h⟩
noncomputable def dc (dS:List D->R D):Ev->O:=(aH (fP 3 (g2 wJ (g2 gN (g2 bX (aK 2 dS (aa (rvz 0) (aa (rvz 1) nlz))) (g2 gN (ciz 6151) (g2 bX (rvz 1) (ciz 1)))) (ciz 40692)) (ciz 2147483399))) (aH (cA (g2 wJ (g2 wJ (g2 bX (g2 gN (rvz 3) (rvz 3)) (g2 AC (rvz 3) (ciz 31))) (ciz 2147483629)) (rvz 2))) oNx))
noncomputable def eO:List D->R D:=fun ds=>az (dc zK (ax 4 ds))
theorem cb {ns:List Int} {n:Nat} {m:Int} (hm:0<m):eO [.lst fz (ns.map .int),.int n,.int m]=.ok (.int (da ns n m)):=by
 show az (dc zK [some (.val (.lst fz (ns.map .int))),some (.val (.int n)),some (.val (.int m)),none])=_
 unfold dc
 have m1:∀ z:Int,gN (.int 6151) (.int z)=some (.int (6151 * z)):=fun z=>by show (if ((-(2 ^ 64):Int)<6151/\(6151:Int)<2 ^ 64)\/((-(2 ^ 64):Int)<z/\z<2 ^ 64) then some (D.int (6151 * z)) else none)=_;exact if_pos (Or.inl (by decide))
 have m2:∀ z:Int,gN (.int z) (.int 40692)=some (.int (z * 40692)):=fun z=>if_pos (Or.inr (by decide))
 have m3:∀ z:Int,wJ (.int z) (.int 2147483399)=some (.int (z % 2147483399)):=fun z=>by show (if (0:Int)<2147483399 then some (D.int (z % 2147483399)) else none)=_;exact if_pos (by decide)
 have m4:∀ z:Int,wJ (.int z) (.int 2147483629)=some (.int (z % 2147483629)):=fun z=>by show (if (0:Int)<2147483629 then some (D.int (z % 2147483629)) else none)=_;exact if_pos (by decide)
 have m5:∀ z:Int,wJ (.int z) (.int m)=some (.int (z % m)):=fun z=>if_pos hm
 have m6:∀ z:Int,AC (.int z) (.int 31)=some (.int (z / 31)):=fun z=>by show (if (0:Int)<31/\(31:Int)<1073741824 then some (D.int (z / 31)) else none)=_;exact if_pos (by decide)
 have m7:∀ i j:Int,bX (.int i) (.int j)=some (.int (i+j)):=fun _ _=>rfl
 have hd:0<=drawn ns n/\drawn ns n<2147483399:=⟨Int.emod_nonneg _ (by decide),Int.emod_lt_of_pos _ (by decide)⟩
 have m8:gN (.int (drawn ns n)) (.int (drawn ns n))=some (.int (drawn ns n * drawn ns n)):=if_pos (Or.inl (by omega))
 have s1:∀ v,([some (.val (.lst fz (ns.map .int))),some (.val (.int n)),some (.val (.int m)),none]:Ev).set 3 v=[some (.val (.lst fz (ns.map .int))),some (.val (.int n)),some (.val (.int m)),v]:=fun _=>rfl
 have q1:(cell ns n+6151 * ((n:Int)+1)) * 40692 % 2147483399=drawn ns n:=rfl
 simp only [aH,fP,cA,g2,wZ,rd0,rd1,rd2,rd3,R.ok_bind,R.ok_out,wm,m1,m2,m3,m4,m5,m6,m7,ck,O.seq,s1,q1,m8,az,da]
noncomputable def hZ (C:Addr):List D->R D
 | [d]=>if qd d=true then (if screen d=true then .ok .non else .ex C) else .no
 | _=>.no
noncomputable def cB (dU:List D->R D) (bC:Addr):Ev->O:=(aH (oIf (gBn (aI jM (aK 1 dU (aa (rvz 0) nlz)))) (aH (lv bC (aa (csz [116,104,105,115,32,105,115,32,110,111,32,115,99,114,101,101,110]) nlz)) oNx) oNx) oNx)
theorem li:∀ ds:List D,ds.length=1->hZ C ds=.no\/az (cB kE C (ax 1 ds))=hZ C ds:=by
 intro ds hl
 unfold cB
 match ds,hl with
 | [d],_=>
  by_cases hf:qd d=true
  ·refine Or.inr ?_
   have e1:kE [d]=.ok (.bl (screen d)):=if_pos hf
   have e2:hZ C [d]=if screen d=true then .ok .non else .ex C:=if_pos hf
   rw [e2]
   show az (aH _ _ [some (.val d)])=_
   have t2:∀ k,jM (.bl k)=.ok k:=fun _=>rfl
   simp only [aH,oIf,lv,gBn,aI,Cf,rd0,R.ok_bind,R.ok_out,e1,t2]
   cases screen d <;> rfl
  ·exact Or.inl (if_neg hf)
theorem Dm {α:Type} (n:Nat) (x:α):(List.replicate n [x]).flatten=List.replicate n x:=by
 induction n with
 | zero=>rfl
 | succ n ih=>rw [List.replicate_succ,List.flatten_cons,ih];rfl
noncomputable def sgn (ns:List Int) (k:Nat):Nat:=([32,32,97,98,35]:List Nat).getD (da ns k 5).toNat 0
theorem Hk (ns:List Int) (k:Nat):ixD (.str [32,32,97,98,35]) (.int (da ns k 5))=some (.str [sgn ns k]):=by
 have h:=bo ns k (m:=5) (by decide)
 unfold sgn
 generalize da ns k 5=v at h
 have:v=0\/v=1\/v=2\/v=3\/v=4:=by omega
 rcases this with rfl|rfl|rfl|rfl|rfl <;> rfl
theorem wA (ns:List Int) (k:Nat):32<=sgn ns k/\sgn ns k<=126:=by
 have h:=bo ns k (m:=5) (by decide)
 unfold sgn
 generalize da ns k 5=v at h
 have:v=0\/v=1\/v=2\/v=3\/v=4:=by omega
 rcases this with rfl|rfl|rfl|rfl|rfl <;> decide
noncomputable def Ao:Ev->O:=aH (fP 3 (g2 bX (rvz 3) (g2 ixD (fun x=>R.ok (D.str [32,32,97,98,35])) (aK 3 eO (aa (rvz 0) (aa (g2 bX (g2 bX (rvz 1) fun x=>R.ok (D.int 1)) fun ρ=>rdV ρ 4) (aa (fun x=>R.ok (D.int 5)) fun x=>R.ok []))))))) oNx
theorem ux (ns:List Int) (fz:Bool) (a:Nat) (W:Option Sl):∀ (ks:List Nat) (x:List Nat) (kk:Option Sl),x.length+ks.length<=sizeLine->
  ∃ kk',cN (lX 4) Ao (ks.map fun i=>D.int (0+(i:Nat))) [some (.val (.lst fz (ns.map .int))),some (.val (.int a)),W,some (.val (.str x)),kk,none]=.nx [some (.val (.lst fz (ns.map .int))),some (.val (.int a)),W,some (.val (.str (x++ks.map fun k=>sgn ns (a+1+k)))),kk',none]
 | [],x,kk,_=>⟨kk,by simp [cN]⟩
 | k::ks,x,kk,h=>by
  have h':(x++[sgn ns (a+1+k)]).length+ks.length<=sizeLine:=by simp at h ⊢;omega
  obtain ⟨kk',ih⟩:=ux ns fz a W ks (x++[sgn ns (a+1+k)]) (some (.val (.int (0+(k:Nat))))) h'
  refine ⟨kk',?_⟩
  have hx:x.length+1<=sizeLine:=by simp at h;omega
  have c1:((a:Int)+1+(0+(k:Int)))=((a+1+k:Nat):Int):=by omega
  have p5:∀ n:Nat,eO [.lst fz (ns.map .int),.int n,.int 5]=.ok (.int (da ns n 5)):=fun n=>cb (by decide)
  have m7:∀ i j:Int,bX (.int i) (.int j)=some (.int (i+j)):=fun _ _=>rfl
  have m8:bX (.str x) (.str [sgn ns (a+1+k)])=some (.str (x++[sgn ns (a+1+k)])):=if_pos hx
  have hB:Ao [some (.val (.lst fz (ns.map .int))),some (.val (.int a)),W,some (.val (.str x)),some (.val (.int (0+(k:Nat)))),none]=.nx [some (.val (.lst fz (ns.map .int))),some (.val (.int a)),W,some (.val (.str (x++[sgn ns (a+1+k)]))),some (.val (.int (0+(k:Nat)))),none]:=by
   simp only [Ao,aH,fP,g2,xc,rd0,rd1,rd3,rd4,R.ok_bind,m7,c1,p5,Hk,m8,ck,R.ok_out,O.seq,oNx]
   rfl
  rw [List.map_cons,cN]
  show (match Ao [some (.val (.lst fz (ns.map .int))),some (.val (.int a)),W,some (.val (.str x)),some (.val (.int (0+(k:Nat)))),none] with
   | .nx ρ2=>cN (lX 4) Ao _ ρ2
   | .ct ρ2=>cN (lX 4) Ao _ ρ2
   | .bk ρ2=>O.nx ρ2
   | .rt d=>O.rt d
   | .re d ρ2=>.re d ρ2
   | .ex C ρ2=>O.ex C ρ2
   | .no=>O.no)=_
  rw [hB]
  simp only [List.map_cons]
  rw [ih,List.append_assoc]
  rfl
theorem AB {α:Type} (xs:List α) (l:Nat) (h:l<=xs.length):jh xs none (some (l:Int))=xs.take l:=by
 have h1:HT.sIx xs.length 0 none=0:=rfl
 have h2:HT.sIx xs.length xs.length (some (l:Int))=l:=by
  simp only [HT.sIx]
  first|omega|(split <;> omega)
 unfold jh
 rw [h1,h2]
 simp
noncomputable def vT (ns:List Int) (a wd:Nat):List Nat:=
 if da ns (a+20) 2=0 then (List.range wd).map fun k=>sgn ns (a+1+k) else ((List.range wd).map fun k=>sgn ns (a+1+k)).take (da ns a (wd+1)).toNat++List.replicate (wd - (da ns a (wd+1)).toNat) 32
theorem kM (ns:List Int) (a wd:Nat):(vT ns a wd).length=wd:=by
 have h:=bo ns a (m:=(wd:Int)+1) (by omega)
 unfold vT
 split
 ·simp
 ·simp;omega
theorem mK (ns:List Int) (a wd:Nat):plain (vT ns a wd)=true:=by
 have hm:∀ c∈(List.range wd).map (fun k=>sgn ns (a+1+k)),32<=c/\c<=126:=by
  intro c hc
  obtain ⟨k,_,rfl⟩:=List.mem_map.1 hc
  exact wA ns _
 unfold plain
 rw [List.all_eq_true]
 intro c hc
 have:32<=c/\c<=126:=by
  unfold vT at hc
  split at hc
  ·exact hm c hc
  ·rcases List.mem_append.1 hc with q|q
   ·exact hm c (List.mem_of_mem_take q)
   ·have:=(List.mem_replicate.1 q).2;omega
 simp [this.1,this.2]
theorem yW {wd:Nat} (h:wd<=100):cu [.int (wd:Int)]=.ok ((List.range wd).map fun i=>D.int (0+(i:Nat))):=by
 have e:cu [.int (wd:Int)]=if -(2 ^ 62)<=(wd:Int)/\(wd:Int)<2 ^ 62 then .ok ((List.range (wd:Int).toNat).map fun i=>D.int (0+(i:Nat))) else .no:=by simp only [cu]
 rw [e,if_pos (by constructor <;> omega),Int.toNat_natCast]
theorem Jy {ns:List Int} {a:Nat}:eO [.lst fz (ns.map .int),.int ((a+20:Nat):Int),.int 2]=.ok (.int (da ns (a+20) 2)):=cb (by decide)
noncomputable def I9 (pk:List D->R D):Ev->O:=aH (fP 5 (aK 3 pk (aa (rvz 0) (aa (rvz 1) (aa (g2 bX (rvz 2) fun x=>R.ok (D.int 1)) fun x=>R.ok [])))))
 (aH (cA (gIf (gB2 eqF (aK 3 pk (aa (rvz 0) (aa (g2 bX (rvz 1) fun x=>R.ok (D.int 20)) (aa (fun x=>R.ok (D.int 2)) fun x=>R.ok [])))) fun x=>R.ok (D.int 0)) (rvz 3)
  (g2 bX (gSl (rvz 3) (fun x=>R.ok none) (jH fun ρ=>rdV ρ 5)) (g2 gN (fun x=>R.ok (D.str [32])) (g2 wf (rvz 2) fun ρ=>rdV ρ 5))))) oNx)
theorem xq {n:Nat} (h:n<=100):gN (.str [32]) (.int (n:Int))=some (.str (List.replicate n 32)):=by
 have hz:(100:Nat)<=sizeLine:=by decide
 have e:[32]=[32]:=rfl
 rw [e,<- Dm n 32]
 simp only [gN]
 rw [if_pos (by refine ⟨by omega,by omega,?_⟩;simp;omega),Int.toNat_natCast]
theorem Ex (pk:List D->R D) (S:D) (a wd l:Nat) (z:Int) (x:List Nat) (kk:Option Sl) (h1:pk [S,.int a,.int ((wd:Int)+1)]=.ok (.int (l:Int))) (h2:pk [S,.int ((a:Int)+20),.int 2]=.ok (.int z)) (hx:x.length=wd) (hw:wd<=100) (hl:l<=wd) :
  I9 pk [some (.val S),some (.val (.int a)),some (.val (.int wd)),some (.val (.str x)),kk,none]=.rt (.str (if z=0 then x else x.take l++List.replicate (wd - l) 32)):=by
 have c1:(wd:Int) - (l:Int)=((wd - l:Nat):Int):=by omega
 have m1:gN (.str [32]) (.int ((wd - l:Nat):Int))=some (.str (List.replicate (wd - l) 32)):=xq (by omega)
 have m2:bX (.str (x.take l)) (.str (List.replicate (wd - l) 32))=some (.str (x.take l++List.replicate (wd - l) 32)):=zQ (by have:=bL;simp;omega)
 have m3:=AD x l
 unfold I9
 clear hx hw hl
 walk_at "run"
 by_cases hz:z=0
 ·simp only [hz,if_true,beq_self_eq_true,R.ok_out,IZ]
 ·have:(z==0)=false:=by simp [hz]
  simp only [hz,this,if_false,Bool.false_eq_true,R.ok_out,IZ]
noncomputable def vk (aA:List D->R D):Ev->O:=(aH (fP 3 (g2 bX (rvz 3) (g2 ixD (csz [32,32,97,98,35]) (aK 3 aA (aa (rvz 0) (aa (g2 bX (g2 bX (rvz 1) (ciz 1)) (rvz 4)) (aa (ciz 5) nlz))))))) oNx)
noncomputable def iy (aA:List D->R D):Ev->O:=(aH (fP 3 (csz [])) (aH (vQ (lX 4) (aI cu (aa (rvz 2) nlz)) (vk aA)) (aH (fP 5 (aK 3 aA (aa (rvz 0) (aa (rvz 1) (aa (g2 bX (rvz 2) (ciz 1)) nlz))))) (aH (cA (gIf (gB2 eqF (aK 3 aA (aa (rvz 0) (aa (g2 bX (rvz 1) (ciz 20)) (aa (ciz 2) nlz)))) (ciz 0)) (rvz 3) (g2 bX (gSl (rvz 3) (fun _=>R.ok none) (jH (rvz 5))) (g2 gN (csz [32]) (g2 wf (rvz 2) (rvz 5)))))) oNx))))
noncomputable def BG:List D->R D:=fun ds=>az (iy eO (ax 6 ds))
theorem tW {ns:List Int} {a wd:Nat} (hw3:wd<=100):BG [.lst fz (ns.map .int),.int (a:Int),.int (wd:Int)]=.ok (.str (vT ns a wd)):=by
 show az (aH (fP 3 (csz [])) (aH (vQ (lX 4) (aI cu (aa (rvz 2) fun _=>R.ok [])) Ao) (I9 eO)) [some (.val (.lst fz (ns.map .int))),some (.val (.int a)),some (.val (.int wd)),none,none,none])=_
 obtain ⟨kk',hL⟩:=ux ns fz a (some (.val (.int wd))) (List.range wd) [] none (by have:=bL;simp;omega)
 have s2:vQ (lX 4) (aI cu (aa (rvz 2) fun _=>R.ok [])) Ao [some (.val (.lst fz (ns.map .int))),some (.val (.int a)),some (.val (.int wd)),some (.val (.str [])),none,none]=.nx [some (.val (.lst fz (ns.map .int))),some (.val (.int a)),some (.val (.int wd)),some (.val (.str ([]++(List.range wd).map fun k=>sgn ns (a+1+k)))),kk',none]:=by
  rw [CB,B8,pP,show ∀ i ρ,rvz i ρ=rdV ρ i from fun _ _=>rfl,rd2,R.ok_bind,R.ok_bind,R.ok_bind,yW hw3,R.ok_out]
  exact hL
 have hp:=bo ns a (m:=(wd:Int)+1) (by omega)
 have s3:=Ex eO (.lst fz (ns.map .int)) a wd (da ns a ((wd:Int)+1)).toNat (da ns (a+20) 2) ([]++(List.range wd).map fun k=>sgn ns (a+1+k)) kk'
  (by rw [Int.toNat_of_nonneg hp.1];exact cb (by omega)) (by exact Jy) (by simp) hw3 (by omega)
 rw [AO,FI,R.ok_out,zj,AO]
 show az ((vQ (lX 4) _ Ao [some (.val (.lst fz (ns.map .int))),some (.val (.int a)),some (.val (.int wd)),some (.val (.str [])),none,none]).seq _)=_
 rw [s2,zj,s3,J5]
 unfold vT
 rw [List.nil_append]
noncomputable def sH (ns:List Int) (a wd m:Nat):List D:=(List.range m).map fun k=>.str (vT ns (a+30 * k) wd)
noncomputable def Ls (ns:List Int) (a wd m:Nat):D:=.tup [.int wd,.tup (sH ns a wd m),.tup [.int (da ns (a+400) m),.int (da ns (a+401) (wd+1))]]
noncomputable def eM (bB aA:List D->R D):Ev->O:=(aH (fP 4 (gOf kK (aa (cz (gm (aI cu (aa (rvz 3) nlz)) [0,1,2] (fun _=>R.ok true) (aK 3 bB (aa (rvz 1) (aa (g2 bX (rvz 2) (g2 gN (ciz 30) (rvz 0))) (aa (rvz 3) nlz)))))) nlz))) (aH (cA (aI mkT (aa (rvz 2) (aa (rvz 4) (aa (aI mkT (aa (aK 3 aA (aa (rvz 0) (aa (g2 bX (rvz 1) (ciz 400)) (aa (rvz 3) nlz)))) (aa (aK 3 aA (aa (rvz 0) (aa (g2 bX (rvz 1) (ciz 401)) (aa (g2 bX (rvz 2) (ciz 1)) nlz)))) nlz))) nlz))))) oNx))
noncomputable def Az:List D->R D:=fun ds=>az (eM BG eO (ax 5 ds))
theorem xD {ns:List Int} {a wd m:Nat} (hw3:wd<=100) (hm:0<m) (hm3:m<=100):Az [.lst fz (ns.map .int),.int (a:Int),.int (wd:Int),.int (m:Int)]=.ok (Ls ns a wd m):=by
 have e:fM (fun _=>R.ok true) (aK 3 BG (aa (rvz 1) (aa (g2 bX (rvz 2) (g2 gN (ciz 30) fun ρ=>rdV ρ 0)) (aa (rvz 3) fun _=>R.ok []))))
   ((List.range m).map fun (i:Nat)=>D.int (i:Int)) [none,some (.val (.lst fz (ns.map .int))),some (.val (.int a)),some (.val (.int wd))]=.ok (((List.range m).map fun (i:Nat)=>D.int (i:Int)).map fun d=>match d with|.int k=>.str (vT ns (a+30 * k.toNat) wd)|d=>d):=by
  refine iW _ _ _ none fun d hd=>⟨rfl,?_⟩
  obtain ⟨k,_,rfl⟩:=List.mem_map.1 hd
  have m1:gN (.int 30) (.int (k:Int))=some (.int ((30 * k:Nat):Int)):=by rw [BW (by decide)];congr 2
  have m2:(a:Int)+((30 * k:Nat):Int)=((a+30 * k:Nat):Int):=by omega
  have m3:=tW (fz:=fz) (ns:=ns) (a:=a+30 * k) hw3
  walk_at "run"
  simp only [Int.toNat_natCast]
 show az (aH _ _ [some (.val (.lst fz (ns.map .int))),some (.val (.int a)),some (.val (.int wd)),some (.val (.int m)),none])=_
 have i1:hU [0,1,2] [some (.val (.lst fz (ns.map .int))),some (.val (.int a)),some (.val (.int wd)),some (.val (.int m)),none]=[none,some (.val (.lst fz (ns.map .int))),some (.val (.int a)),some (.val (.int wd))]:=rfl
 have r1:cu [.int (m:Int)]=.ok ((List.range m).map fun (i:Nat)=>D.int (i:Int)):=tt (by omega)
 have z1:(((List.range m).map fun (i:Nat)=>D.int (i:Int)).map fun d=>match d with|.int k=>.str (vT ns (a+30 * k.toNat) wd)|d=>d)=sH ns a wd m:=by
  rw [List.map_map];unfold sH;refine List.map_congr_left fun k _=>?_;simp
 have z2:(sH ns a wd m).length<=sizeLine:=by have:=bL;unfold sH;simp;omega
 have p1:eO [.lst fz (ns.map .int),.int ((a:Int)+400),.int (m:Int)]=.ok (.int (da ns (a+400) m)):=by have:=cb (fz:=fz) (ns:=ns) (n:=a+400) (m:=m) (by omega);exact this
 have p2:eO [.lst fz (ns.map .int),.int ((a:Int)+401),.int ((wd:Int)+1)]=.ok (.int (da ns (a+401) (wd+1))):=by have:=cb (fz:=fz) (ns:=ns) (n:=a+401) (m:=(wd:Int)+1) (by omega);exact this
 have k1:∀ x:List D,kK [.lst false x]=some (.tup x):=fun _=>rfl
 have k2:∀ x y:D,mkT [x,y]=.ok (.tup [x,y]):=fun _ _=>m_t (by simp)
 have k3:∀ x y z:D,mkT [x,y,z]=.ok (.tup [x,y,z]):=fun _ _ _=>m_t (by simp)
 rw [z1] at e
 clear hm hw3 hm3 z1
 walk_at "run"
 rfl
noncomputable def cl:Nat->D->Bool
 | 0,_=>false
 | _+1,.exc _=>false
 | _+1,.dct _ _=>false
 | n+1,.tup xs=>xs.all (cl n)
 | n+1,.lst _ xs=>xs.all (cl n)
 | _+1,_=>true
theorem mR {f:D->D->Option Bool}:∀ xs:List D,(∀ x∈xs,f x x=some true)->eqZ f xs xs=some (xs.map fun _=>true)
 | [],_=>rfl
 | x::xs,h=>by
  rw [eqZ,h x (List.mem_cons_self ..),mR xs fun y hy=>h y (List.mem_cons_of_mem _ hy)];rfl
theorem nr {α:Type}:∀ xs:List α,(xs.map fun _=>true).all id=true
 | []=>rfl
 | _::xs=>by rw [List.map_cons,List.all_cons,nr xs];rfl
theorem oq:∀ (n m:Nat) (d:D),n<=m->cl n d=true->eqD m d d=some true
 | 0,_,_,_,h=>by simp [cl] at h
 | n+1,0,_,h,_=>by omega
 | n+1,m+1,d,hm,h=>by
  cases d <;> first|(simp [cl] at h;done)|(simp [eqD];done)|skip
  ·rename_i xs
   simp only [cl,List.all_eq_true] at h
   have:=mR (f:=eqD m) xs fun x hx=>oq n m x (by omega) (h x hx)
   simp only [eqD,this,Option.map_some,nr,beq_self_eq_true,Bool.and_true]
  ·rename_i fz xs
   simp only [cl,List.all_eq_true] at h
   have:=mR (f:=eqD m) xs fun x hx=>oq n m x (by omega) (h x hx)
   simp only [eqD,if_true,this,Option.map_some,nr]
theorem yJ (h:cl 10 d=true):neF d d=some (.bl false):=by
 unfold neF;rw [oq 10 40 d (by omega) h];rfl
noncomputable def Kg:List Nat->D->D->Option D
 | [],_,v=>some v
 | k::ks,.tup xs,v=>match xs[k]? with
  | some x=>if xs.length<=1000 then (Kg ks x v).map fun y=>.tup (xs.take k++[y]++xs.drop (k+1)) else none
  | none=>none
 | _,_,_=>none
noncomputable def E8:List D->Option (List Nat)
 | []=>some []
 | .int i::ds=>if 0<=i then (E8 ds).map (i.toNat::·) else none
 | _::_=>none
noncomputable def mC (n:Nat):List D->R D
 | [d,.tup p,v]=>match E8 p with
  | some ks=>if ks.length<n/\n<=500 then ofO (Kg ks d v) else .no
  | none=>.no
 | _=>.no
noncomputable def pt:Nat->D->Bool
 | 0,_=>false
 | _+1,.int _=>true
 | _+1,.str x=>decide (x.length<=900)
 | n+1,.tup xs=>xs.all (pt n) && decide (xs.length<=900)
 | _+1,_=>false
noncomputable def Kl:Nat->D->Bool
 | 0,_=>true
 | _+1,.exc _=>false
 | _+1,.dct _ _=>false
 | _+1,.str x=>decide (x.length<=1000)
 | n+1,.tup xs=>xs.all (Kl n)
 | n+1,.lst _ xs=>xs.all (Kl n)
 | _+1,_=>true
noncomputable def jr (bj:List D->R D):Ev->O:=(aH (cA (mr (g2 eqF (gOf fu (aa (rvz 0) nlz)) (ciz 2)) (mr (g2 eqF (g2 ixD (rvz 0) (ciz 0)) (csz [115,97,121])) (mr (aK 1 bj (aa (g2 ixD (rvz 0) (ciz 1)) nlz)) (g3 leD leD (ciz 1) (gOf fu (aa (g2 ixD (rvz 0) (ciz 1)) nlz)) (ciz 40)))))) oNx)
noncomputable def km (aP:List D->R D):Ev->O:=(aH (oIf (qV (gB2 neF (gOf fu (aa (rvz 0) nlz)) (ciz 3)) (gB2 neF (g2 ixD (rvz 0) (ciz 0)) (csz [103,111]))) (aH (cA (fun _=>R.ok (D.bl false))) oNx) oNx) (aH (cA (mr (aK 3 aP (aa (g2 ixD (rvz 0) (ciz 1)) (aa (ciz 0) (aa (g2 wf (ciz 12) (ciz 1)) nlz)))) (aK 3 aP (aa (g2 ixD (rvz 0) (ciz 2)) (aa (ciz 0) (aa (ciz 40) nlz)))))) oNx))
noncomputable def fW (iX kX:List D->R D):Ev->O:=(aH (oIf (gBn (aI jM (aI (iJ (·=="tuple")) (rvz 0)))) (aH (cA (fun _=>R.ok (D.bl false))) oNx) oNx) (aH (cA (gOr (aK 1 iX (aa (rvz 0) nlz)) (gOr (aK 1 kX (aa (rvz 0) nlz)) (g2 eqF (rvz 0) (aI mkT (aa (csz [119,105,112,101]) nlz)))))) oNx))
noncomputable def dI (eW:List D->R D) (bG:Addr):Ev->O:=(aH (oIf (gBn (aI jM (aK 1 eW (aa (rvz 0) nlz)))) (aH (lv bG (aa (csz [116,104,105,115,32,105,115,32,110,111,32,111,114,100,101,114]) nlz)) oNx) oNx) oNx)
noncomputable def scr (wd:Nat) (rows:List (List Nat)) (r c:Nat):D:=.tup [.int (wd:Int),.tup (rows.map .str),.tup [.int (r:Int),.int (c:Int)]]
structure SOk (wd:Nat) (rows:List (List Nat)) (r c:Nat):Prop where
 w:wd<=100
 c:c<=wd
 r:r<rows.length
 m:rows.length<=100
 l:∀ x∈rows,x.length=wd
noncomputable def dH (bQ:List D->R D) (bG:Addr):Ev->O:=(aH (oe (aK 1 bQ (aa (rvz 1) nlz))) oNx)
noncomputable def dj (bQ:List D->R D) (bG:Addr):Ev->O:=(aH (oIf (gBn (aI jM (aI (iJ (·=="list")) (rvz 0)))) (aH (lv bG (aa (csz [116,104,105,115,32,105,115,32,110,111,32,108,105,115,116,32,111,102,32,111,114,100,101,114,115]) nlz)) oNx) oNx) (aH (vQ (lX 1) (aI bU (rvz 0)) (dH bQ bG)) oNx))
noncomputable def eP:Ev->O:=(aH (oIf (gB2 eqF (g2 ixD (rvz 0) (ciz 0)) (csz [115,97,121])) (aH (cA (gOf fu (aa (g2 ixD (rvz 0) (ciz 1)) nlz))) oNx) oNx) (aH (oIf (gB2 eqF (g2 ixD (rvz 0) (ciz 0)) (csz [103,111])) (aH (cA (ciz 2)) oNx) oNx) (aH (cA (ciz 1)) oNx)))
noncomputable def nA (aR bH:List D->R D):Ev->O:=(aH (oe (aK 1 aR (aa (rvz 0) nlz))) (aH (cA (gOf ED (aa (cz (gm (aI bU (rvz 0)) [] (fun _=>R.ok true) (aK 1 bH (aa (rvz 0) nlz)))) nlz))) oNx))
noncomputable def cM:Ev->O:=(aH (oIf (gB2 neF (g2 ixD (rvz 0) (ciz 0)) (g2 ixD (rvz 1) (ciz 0))) (aH (cA (fun _=>R.ok D.non)) oNx) oNx) (aH (oIf (gB2 neF (g2 ixD (rvz 0) (ciz 0)) (csz [115,97,121])) (aH (cA (rvz 1)) oNx) oNx) (aH (fP 2 (g2 bX (g2 ixD (rvz 0) (ciz 1)) (g2 ixD (rvz 1) (ciz 1)))) (aH (cA (gIf (gB2 leD (gOf fu (aa (rvz 2) nlz)) (ciz 40)) (aI mkT (aa (csz [115,97,121]) (aa (rvz 2) nlz))) (fun _=>R.ok D.non))) oNx))))
noncomputable def eE (aR bp:List D->R D):Ev->O:=(aH (Dt 1 3 (gIf (gB2 gtD (gOf fu (aa (rvz 1) nlz)) (ciz 0)) (aK 2 bp (aa (g2 ixD (rvz 1) (aI A3 (ciz 1))) (aa (rvz 2) nlz))) (fun _=>R.ok D.non))) (aH (oIf (gB2 isF (rvz 3) (fun _=>R.ok D.non)) (aH (Hy 1 (rvz 2)) oNx) (aH (CN 1 (aI A3 (ciz 1)) (rvz 3)) oNx)) oNx))
noncomputable def fA (aR bp:List D->R D):Ev->O:=(aH (oe (aK 1 aR (aa (rvz 0) nlz))) (aH (EZ 1 (wB nlz)) (aH (vQ (lX 2) (aI bU (rvz 0)) (eE aR bp)) (Ft 1 (aH (cA (rvz 1)) oNx)))))
inductive Od where
 | say (x:List Nat)
 | go (r c:Nat)
 | wipe
noncomputable def oD:Od->D
 | .say x=>.tup [.str [115,97,121],.str x]
 | .go r c=>.tup [.str [103,111],.int (r:Int),.int (c:Int)]
 | .wipe=>.tup [.str [119,105,112,101]]
noncomputable def okO:Od->Bool
 | .say x=>plain x && (decide (1<=x.length) && decide (x.length<=40))
 | .go r c=>decide (r<=11) && decide (c<=40)
 | .wipe=>true
noncomputable def bv:Od->Nat
 | .say x=>x.length
 | .go _ _=>2
 | .wipe=>1
noncomputable def eK:Od->Od->Option Od
 | .say x,.say y=>if x.length+y.length<=40 then some (.say (x++y)) else none
 | .go _ _,.go r c=>some (.go r c)
 | .wipe,.wipe=>some .wipe
 | _,_=>none
noncomputable def oZ:Od->Nat
 | .say x=>x.length
 | _=>0
noncomputable def jD:Option Od->D
 | some o=>oD o
 | none=>.non
noncomputable def dG (acc:List Od) (o:Od):List Od:=match acc.getLast? with
 | none=>[o]
 | some l=>match eK l o with
  | some j=>acc.dropLast++[j]
  | none=>acc++[o]
theorem qD (o:Od):dG [] o=[o]:=rfl
theorem gX {acc:List Od} {l o j:Od} (h:eK l o=some j):dG (acc++[l]) o=acc++[j]:=by simp [dG,h]
theorem iI {acc:List Od} {l o:Od} (h:eK l o=none):dG (acc++[l]) o=acc++[l]++[o]:=by simp [dG,h]
noncomputable def shO (os:List Od):List Od:=os.foldl dG []
theorem AV (l:List Od):l=[]\/∃ l' b,l=l'++[b]:=by
 rcases List.eq_nil_or_concat l with h|⟨l',b,h⟩
 ·exact .inl h
 ·exact .inr ⟨l',b,by rw [h,List.concat_eq_append]⟩
theorem JJ (o:Od):fl 10 (oD o)=true:=by cases o <;> rfl
noncomputable def FX (os:List Od):Nat:=(os.map oZ).sum
theorem Ar {l o j:Od} (h:eK l o=some j):oZ j=oZ l+oZ o/\bv j<=bv l+bv o:=by
 cases l <;> cases o <;> simp [eK] at h
 ·obtain ⟨_,rfl⟩:=h;simp [oZ,bv]
 ·subst h;simp [oZ,bv]
 ·subst h;simp [oZ,bv]
theorem uv (acc:List Od) (o:Od):FX (dG acc o)=FX acc+oZ o/\(dG acc o).length<=acc.length+1/\((dG acc o).map bv).sum<=(acc.map bv).sum+bv o:=by
 rcases AV acc with rfl|⟨a,l,rfl⟩
 ·rw [qD];simp [FX]
 ·cases hj:eK l o with
  | none=>rw [iI hj];simp [FX,List.sum_append];omega
  | some j=>
   obtain ⟨h1,h2⟩:=Ar hj
   rw [gX hj]
   simp [FX,List.sum_append]
   omega
noncomputable def jF (av:Addr) (aN:List D->R D):Ev->O:=(aH (oe (aK 1 aN (aa (rvz 1) nlz))) (aH (xz av 0 0 (wB (aa (aI mkT (aa (csz [109,97,100,101]) (aa (rvz 1) (aa (ciz 0) nlz)))) nlz))) (aH (xz av 0 1 (wB nlz)) oNx)))
noncomputable def iV (av:Addr):Ev->O:=(aH (cA (g2 ixD (tM av 0 0 (aI A3 (ciz 1))) (ciz 1))) oNx)
noncomputable def iL (av:Addr):Ev->O:=(aH (cA (g2 ixD (tM av 0 0 (aI A3 (ciz 1))) (ciz 2))) oNx)
noncomputable def gC (av:Addr) (am:MF):Ev->O:=(aH (Dv av 0 0 (aI mkT (aa (rvz 1) (aa (rvz 2) (aa (g2 bX (dF av 0 am) (rvz 3)) nlz))))) (aH (xz av 0 1 (wB nlz)) oNx))
theorem iA {m:Bool} {fs:List (Nat×Fd)} (h:ρ[i]?=some (some (.obj m C p fs))):oY C ρ i=.ok fs:=by
 unfold oY;rw [h];exact if_pos rfl
theorem kH {fs:List (Nat×Fd)} (h:ρ[i]?=some (some (.obj true C p fs))):qW C ρ i=.ok (p,fs):=by
 unfold qW;rw [h];exact if_pos rfl
noncomputable def cO:List Nat:=[109,97,100,101]
noncomputable def cw (sts tk:List D):List (Nat×Fd):=[(0,.own sts),(1,.own tk)]
noncomputable def st3 (a b:D) (c:Int):D:=.tup [a,b,.int c]
noncomputable def D8:List (Nat×Fd)->Option (List D×List D)
 | [(0,.own a),(1,.own b)]=>some (a,b)
 | _=>none
theorem ze {fs:List (Nat×Fd)} {a b:List D} (h:D8 fs=some (a,b)):fs=cw a b:=by
 unfold D8 at h
 split at h
 ·cases h;rfl
 ·cases h
noncomputable def t3D:D->Option (D×D×Int)
 | .tup [a,b,.int c]=>some (a,b,c)
 | _=>none
theorem Gs {a b:D} {c:Int} (h:t3D d=some (a,b,c)):d=st3 a b c:=by
 unfold t3D at h
 split at h
 ·cases h;rfl
 ·cases h
noncomputable def vG (sts:List D):Option (D×D×Int):=sts.getLast?.bind t3D
theorem A6 {sts:List D} {a b:D} {c:Int} (h:vG sts=some (a,b,c)):∃ l,sts=l++[st3 a b c]:=by
 unfold vG at h
 cases q:sts.getLast? with
 | none=>rw [q] at h;cases h
 | some d=>
  rw [q] at h
  have e:=Gs h
  subst e
  exact List.getLast?_eq_some_iff.1 q
theorem wy (l:List D) (a b:D) (c:Int):vG (l++[st3 a b c])=some (a,b,c):=by
 unfold vG;rw [List.getLast?_concat];rfl
theorem xN (l:List D) (d:D):ixD (.lst false (l++[d])) (.int (-1))=some d:=by
 show atI (l++[d]) (-1)=some d
 have e:ixN (l++[d]).length (-1)=some l.length:=by
  unfold ixN
  rw [if_neg (by decide),if_pos (by simp;omega)]
  simp
  omega
 unfold atI
 rw [e]
 simp
section
variable {Cs Co Cr Cb Cp:Addr}
noncomputable def fk (Cs:Addr):MF:=fun fs ds=>match fs,ds with
 | [],[d]=>(match hZ Cs [d] with
  | .ok _=>.ok .non (cw [st3 (.str cO) d 0] [])
  | .ex E=>.ex E
  | .no=>.no)
 | _,_=>.no
noncomputable def AQ (k:List D->List D->D->D->Int->List D->RM):MF:=fun fs ds=>match D8 fs with
 | none=>.no
 | some (sts,tk)=>(match vG sts with
  | none=>.no
  | some (a,b,c)=>k sts tk a b c ds)
noncomputable def cT:MF:=AQ fun _ _ _ b _ ds=>match ds with
 | []=>.rd b
 | _=>.no
noncomputable def dg:MF:=AQ fun _ _ _ _ c ds=>match ds with
 | []=>.rd (.int c)
 | _=>.no
noncomputable def DM:MF:=AQ fun sts _ _ _ c ds=>match ds with
 | [a,b,.int p]=>if sts.length<1000 then .ok .non (cw (sts++[st3 a b (c+p)]) []) else .no
 | _=>.no
theorem ir (k:List D->List D->D->D->Int->List D->RM) (l tk:List D) (a b:D) (c:Int) (ds:List D):AQ k (cw (l++[st3 a b c]) tk) ds=k (l++[st3 a b c]) tk a b c ds:=by
 unfold AQ
 have e:D8 (cw (l++[st3 a b c]) tk)=some (l++[st3 a b c],tk):=rfl
 rw [e]
 dsimp only
 rw [wy]
theorem oM {g:Ev->O} {n:Nat} {k:List D->List D->D->D->Int->List D->RM} (h:∀ p l tk a b c ds,match k (l++[st3 a b c]) tk a b c ds with
 | .ok d fs'=>∃ ρ',ρ'[0]?=some (some (.obj true Cp p fs'))/\(g (cV true Cp p (cw (l++[st3 a b c]) tk) n ds)=.re d ρ'\/(g (cV true Cp p (cw (l++[st3 a b c]) tk) n ds)=.nx ρ'/\d=.non))
 | .rd d=>g (cV false Cp p (cw (l++[st3 a b c]) tk) n ds)=.rt d
 | .ex E=>∃ ρ',g (cV false Cp p (cw (l++[st3 a b c]) tk) n ds)=.ex E ρ'
 | .no=>True):cW Cp g n (AQ k):=by
 intro p fs ds
 cases q:D8 fs with
 | none=>simp only [AQ,q]
 | some z=>
  obtain ⟨sts,tk⟩:=z
  have e:=ze q
  subst e
  cases q2:vG sts with
  | none=>simp only [AQ,q,q2]
  | some z2=>
   obtain ⟨a,b,c⟩:=z2
   obtain ⟨l,rfl⟩:=A6 q2
   have:=h p l tk a b c ds
   rw [ir]
   exact this
theorem fl0 (sts tk:List D):fldL (cw sts tk) 0=.ok sts:=rfl
theorem fl1 (sts tk:List D):fldL (cw sts tk) 1=.ok tk:=rfl
theorem pk0 (sts tk x:List D):je 0 (.own x) (cw sts tk)=cw x tk:=rfl
theorem pk1 (sts tk x:List D):je 1 (.own x) (cw sts tk)=cw sts x:=rfl
theorem DS:cW Cp (iV Cp) 1 cT:=by
 refine oM fun p l tk a b c ds=>?_
 cases ds with
 | cons _ _=>trivial
 | nil=>
  have l1:=xN l (st3 a b c)
  have f0:=fl0 (l++[st3 a b c]) tk
  have o0:∀ r,oY Cp (some (.obj false Cp p (cw (l++[st3 a b c]) tk))::r) 0=.ok (cw (l++[st3 a b c]) tk):=fun r=>iA rfl
  have ng1:A3 (.int 1)=.ok (.int (-1)):=rfl
  have i1:ixD (st3 a b c) (.int 1)=some b:=rfl
  show aH _ _ [some (.obj false Cp p (cw (l++[st3 a b c]) tk))]=_
  walk_at "run"
theorem D4:cW Cp (iL Cp) 1 dg:=by
 refine oM fun p l tk a b c ds=>?_
 cases ds with
 | cons _ _=>trivial
 | nil=>
  have l1:=xN l (st3 a b c)
  have f0:=fl0 (l++[st3 a b c]) tk
  have o0:∀ r,oY Cp (some (.obj false Cp p (cw (l++[st3 a b c]) tk))::r) 0=.ok (cw (l++[st3 a b c]) tk):=fun r=>iA rfl
  have ng1:A3 (.int 1)=.ok (.int (-1)):=rfl
  have i1:ixD (st3 a b c) (.int 2)=some (.int c):=rfl
  show aH _ _ [some (.obj false Cp p (cw (l++[st3 a b c]) tk))]=_
  walk_at "run"
theorem GA {l:List D} (h:(l++[d]).length<1000):(l++[d]).length<sizeLine:=Nat.lt_trans h (by decide)
theorem Fh:cW Cp (gC Cp dg) 4 DM:=by
 refine oM fun p l tk a b c ds=>?_
 match ds with
 | []=>trivial
 | [_]=>trivial
 | [_,_]=>trivial
 | _::_::_::_::_=>simp
 | [x,y,z]=>
  cases z with
  | int pr=>
   dsimp only
   by_cases hl:(l++[st3 a b c]).length<1000
   ·rw [if_pos hl]
    dsimp only
    have f0:=fl0 (l++[st3 a b c]) tk
    have lk:=GA hl
    have s1:dg (cw (l++[st3 a b c]) tk) []=.rd (.int c):=ir _ l tk a b c []
    have o0:∀ r,oY Cp (some (.obj true Cp p (cw (l++[st3 a b c]) tk))::r) 0=.ok (cw (l++[st3 a b c]) tk):=fun r=>iA rfl
    have o1:∀ r fs,qW Cp (some (.obj true Cp p fs)::r) 0=.ok (p,fs):=fun r fs=>kH rfl
    have mk3:∀ x y z,mkT [x,y,z]=.ok (.tup [x,y,z]):=fun _ _ _=>rfl
    have k0:=pk0 (l++[st3 a b c]) tk
    have k1:=pk1 (l++[st3 a b c]++[st3 x y (c+pr)]) tk
    have w:(cw (l++[st3 a b c]++[st3 x y (c+pr)]) tk).length<900:=by show 2<900;decide
    have e3:D.tup [x,y,D.int (c+pr)]=st3 x y (c+pr):=rfl
    have z0:0<=sizeLine:=by decide
    have z3:3<=sizeLine:=by decide
    refine ⟨[some (.obj true Cp p (cw (l++[st3 a b c]++[st3 x y (c+pr)]) [])),some (.val x),some (.val y),some (.val (.int pr))],rfl,.inr ⟨?_,rfl⟩⟩
    show aH _ _ [some (.obj true Cp p (cw (l++[st3 a b c]) tk)),some (.val x),some (.val y),some (.val (.int pr))]=_
    clear hl
    walk_at "run"
   ·rw [if_neg hl];trivial
  | _=>trivial
theorem Fk:cW Cp (jF Cp (hZ Cs)) 2 (fk Cs):=by
 intro p fs ds
 unfold fk
 match fs,ds with
 | [],[d]=>
  dsimp only
  cases hc:hZ Cs [d] with
  | no=>trivial
  | ex E=>
   dsimp only
   refine ⟨[some (.obj false Cp p []),some (.val d)],?_⟩
   show aH _ _ [some (.obj false Cp p []),some (.val d)]=_
   walk_at "run"
  | ok x=>
   dsimp only
   have o1:∀ r fs,qW Cp (some (.obj true Cp p fs)::r) 0=.ok (p,fs):=fun r fs=>kH rfl
   have mk3:∀ x y z,mkT [x,y,z]=.ok (.tup [x,y,z]):=fun _ _ _=>rfl
   have z1:1<=sizeLine:=by decide
   have z0:0<=sizeLine:=by decide
   have w0:(0:Nat)<900:=by decide
   have w1':(1:Nat)<900:=by decide
   have k0:je 0 (.own [.tup [.str [109,97,100,101],d,.int 0]]) []=[(0,Fd.own [st3 (.str cO) d 0])]:=rfl
   have w1:([(0,Fd.own [st3 (.str cO) d 0])]:List (Nat×Fd)).length<900:=by show 1<900;decide
   have k1:je 1 (.own []) [(0,Fd.own [st3 (.str cO) d 0])]=cw [st3 (.str cO) d 0] []:=rfl
   refine ⟨[some (.obj true Cp p (cw [st3 (.str cO) d 0] [])),some (.val d)],rfl,.inr ⟨?_,rfl⟩⟩
   show aH _ _ [some (.obj true Cp p []),some (.val d)]=_
   walk_at "run"
 | [],[]=>trivial
 | [],_::_::_=>trivial
 | _::_,_=>trivial
end
noncomputable def gf (aA cL:List D->R D):Ev->O:=(aH (cA (aK 4 cL (aa (rvz 0) (aa (g2 bX (rvz 1) (ciz 5)) (aa (g2 bX (ciz 1) (aK 3 aA (aa (rvz 0) (aa (rvz 1) (aa (ciz 8) nlz))))) (aa (g2 bX (ciz 1) (aK 3 aA (aa (rvz 0) (aa (g2 bX (rvz 1) (ciz 1)) (aa (ciz 4) nlz))))) nlz)))))) oNx)
theorem LO (a b c:D):ixD (.tup [a,b,c]) (.int 0)=some a:=rfl
theorem Kf (f:Bool) (x:List D):bU (.lst f x)=.ok x:=rfl
theorem se (h:screen d=true):qd d=true:=by
 cases d <;> first|(cases h;done)|skip
 rename_i xs
 match xs,h with
 | [],h=>cases h
 | [_],h=>cases h
 | [_,_],h=>cases h
 | a::b::c::e::l,h=>cases h
 | [a,r,p],h=>
  cases a <;> first|(cases h;done)|skip
  rename_i i
  cases r <;> first|(simp [screen,we] at h;done)|skip
  rename_i rows
  simp only [screen,Bool.and_eq_true] at h
  obtain ⟨⟨h1,h2⟩,h3⟩:=h
  simp only [we,Bool.and_eq_true,List.all_eq_true] at h2
  simp only [inB,Bool.and_eq_true,decide_eq_true_eq] at h1
  simp only [qd,Bool.and_eq_true,List.all_eq_true]
  refine ⟨⟨rfl,fun r hr=>?_⟩,?_⟩
  ·have q:=h2.2 r hr
   cases r <;> first|rfl|(cases q;done)|skip
   rename_i x
   simp only [AX,Bool.and_eq_true,beq_iff_eq] at q
   simp only [EU,decide_eq_true_eq]
   have:=bL
   omega
  ·cases p <;> first|(cases h3;done)|skip
   rename_i ps
   match ps,h3 with
   | [a,b],h3=>
    simp only [rA,Bool.and_eq_true] at h3
    show [a,b].all pQ=true
    rw [List.all_eq_true]
    intro x hx
    rcases List.mem_cons.1 hx with rfl|hx
    ·cases x <;> first|rfl|exact absurd h3.1 (by simp [inB])
    ·rcases List.mem_cons.1 hx with rfl|hx
     ·cases x <;> first|rfl|exact absurd h3.2 (by simp [inB])
     ·cases hx
theorem kj (h:screen d=true):hZ C [d]=.ok .non:=by
 show (if qd d=true then (if screen d=true then R.ok D.non else .ex C) else .no)=_
 rw [if_pos (se h),if_pos h]
noncomputable def xo (b m r:Int):Bool:=decide (0<=b) && decide (b<=r - 1) && (decide (1<=m) && decide (m<=r - b))
noncomputable def EH (l w:Nat):D->D
 | .str x=>.str ((x.drop l).take w)
 | d=>d
noncomputable def Jd:List D->R D
 | [.tup [.int wd,.tup rows,p],.int t,.int l,.int h,.int w]=>if screen (.tup [.int wd,.tup rows,p])=true/\xo t h rows.length=true/\xo l w wd=true then .ok (.tup [.int w,.tup (((rows.drop t.toNat).take h.toNat).map (EH l.toNat w.toNat)),.tup [.int 0,.int 0]]) else .no
 | _=>.no
noncomputable def wS (ns:List Int) (a:Nat):Nat:=(1+da ns a 8).toNat
noncomputable def mS (ns:List Int) (a:Nat):Nat:=(1+da ns (a+1) 4).toNat
theorem mX (ns:List Int) (a:Nat):1<=wS ns a/\wS ns a<=8/\(1:Int)+da ns a 8=(wS ns a:Int):=by
 have h:=bo ns a (m:=8) (by decide)
 unfold wS;omega
theorem nQ (ns:List Int) (a:Nat):1<=mS ns a/\mS ns a<=4/\(1:Int)+da ns (a+1) 4=(mS ns a:Int):=by
 have h:=bo ns (a+1) (m:=4) (by decide)
 unfold mS;omega
noncomputable def pl (ns:List Int) (a:Nat) (wd m:Nat):D:=.tup [.int (da ns (a+400) m),.int (da ns (a+401) (wd+1))]
noncomputable def scS (ns:List Int) (a:Nat):D:=.tup [.int (wS ns a:Int),.tup (sH ns (a+5) (wS ns a) (mS ns a)),pl ns (a+5) (wS ns a) (mS ns a)]
noncomputable def iB:List D->R D:=fun ds=>az (gf eO Az (ax 2 ds))
theorem yH {ns:List Int} {a:Nat}:iB [.lst fz (ns.map .int),.int (a:Int)]=.ok (scS ns a):=by
 show az (aH _ _ [some (.val (.lst fz (ns.map .int))),some (.val (.int a))])=_
 have p1:eO [.lst fz (ns.map .int),.int (a:Int),.int 8]=.ok (.int (da ns a 8)):=cb (by decide)
 have p2:eO [.lst fz (ns.map .int),.int ((a:Int)+1),.int 4]=.ok (.int (da ns (a+1) 4)):=cb (n:=a+1) (by decide)
 obtain ⟨w1,w2,w3⟩:=mX ns a
 obtain ⟨m1,m2,m3⟩:=nQ ns a
 have s1:Az [.lst fz (ns.map .int),.int ((a:Int)+5),.int (wS ns a:Int),.int (mS ns a:Int)]=.ok (scS ns a):=xD (a:=a+5) (by omega) (by omega) (by omega)
 clear w1 w2 m1 m2
 walk_at "run"
noncomputable abbrev St:=Nat×List (List Nat)×Nat×Nat
noncomputable def sD (s:St):D:=scr s.1 s.2.1 s.2.2.1 s.2.2.2
noncomputable def bA:St->Od->Option St
 | (wd,rows,r,c),.say x=>if wd<c+x.length then none else some (wd,rows.set r ((rows.getD r []).take c++x++(rows.getD r []).drop (c+x.length)),r,c+x.length)
 | (wd,rows,r,c),.go n k=>if rows.length<=n\/wd<k then none else some (wd,rows,n,k)
 | (wd,rows,r,c),.wipe=>some (wd,rows.set r ((rows.getD r []).take c++List.replicate (wd - c) 32),r,c)
structure GS (s:St):Prop where
 w1:1<=s.1
 w2:s.1<=40
 m:s.2.1.length<=12
 r:s.2.2.1<s.2.1.length
 c:s.2.2.2<=s.1
 l:∀ x∈s.2.1,x.length=s.1/\plain x=true
theorem GS.screen {s:St} (h:GS s):screen (sD s)=true:=by
 obtain ⟨wd,rows,r,c⟩:=s
 have h1:=h.w1
 have h2:=h.w2
 have h3:=h.m
 have h4:=h.r
 have h5:=h.c
 have h6:=h.l
 dsimp only at h1 h2 h3 h4 h5 h6
 have hf:we (.tup (rows.map .str)) (wd:Int)=true:=by
  simp only [we,List.length_map,Bool.and_eq_true,decide_eq_true_eq,List.all_eq_true]
  refine ⟨⟨by omega,by omega⟩,fun d hd=>?_⟩
  obtain ⟨x,hx,rfl⟩:=List.mem_map.1 hd
  obtain ⟨q1,q2⟩:=h6 x hx
  simp [AX,q1,q2]
 simp only [sD,scr,Q.screen,hf,rA,inB,List.length_map,Bool.and_eq_true,decide_eq_true_eq]
 refine ⟨⟨⟨by omega,by omega⟩,trivial⟩,?_⟩
 omega
theorem JP (s:St):cl 10 (sD s)=true:=by
 have:(s.2.1.map D.str).all (cl 8)=true:=by
  rw [List.all_eq_true];intro d hd;obtain ⟨x,_,rfl⟩:=List.mem_map.1 hd;rfl
 simp only [sD,scr,cl,List.all_cons,List.all_nil,this,Bool.and_true,Bool.and_self]
theorem eT {x y:List Nat} (h1:plain x=true) (h2:plain y=true):plain (x++y)=true:=by
 simp only [plain,List.all_append,Bool.and_eq_true] at *;exact ⟨h1,h2⟩
theorem kA {x y:List Nat} (h:plain x=true) (hs:∀ c∈y,c∈x):plain y=true:=by
 simp only [plain,List.all_eq_true] at h ⊢;exact fun c hc=>h c (hs c hc)
theorem uw {α:Type} {l:List α} {a x:α} (h:x∈l.set i a):x=a\/x∈l:=by
 rcases List.mem_or_eq_of_mem_set h with h|h
 ·exact .inr h
 ·exact .inl h
theorem gW {rows:List (List Nat)} {r:Nat} (h:r<rows.length):rows.getD r []∈rows:=by
 rw [List.getD_eq_getElem?_getD,List.getElem?_eq_getElem h];exact List.getElem_mem h
theorem lf {s s':St} {o:Od} (h:GS s) (ho:okO o=true) (e:bA s o=some s'):GS s':=by
 obtain ⟨wd,rows,r,c⟩:=s
 have h1:=h.w1
 have h2:=h.w2
 have h3:=h.m
 have h4:=h.r
 have h5:=h.c
 have h6:=h.l
 dsimp only at h1 h2 h3 h4 h5 h6
 obtain ⟨g1,g2⟩:=h6 _ (gW h4)
 cases o with
 | say x=>
  simp only [okO,Bool.and_eq_true,decide_eq_true_eq] at ho
  by_cases hn:wd<c+x.length
  ·simp only [bA,hn,if_true] at e;cases e
  ·simp only [bA,hn,if_false] at e
   cases e
   refine ⟨h1,h2,by simpa using h3,by simpa using h4,by dsimp only;omega,fun y hy=>?_⟩
   rcases uw hy with rfl|hy
   ·refine ⟨by simp only [List.length_append,List.length_take,List.length_drop,List.length_replicate];omega,eT (eT (kA g2 fun c hc=>List.mem_of_mem_take hc) ho.1) (kA g2 fun c hc=>List.mem_of_mem_drop hc)⟩
   ·exact h6 y hy
 | go n k=>
  by_cases hn:rows.length<=n\/wd<k
  ·simp only [bA,hn,if_true] at e;cases e
  ·simp only [bA,hn,if_false] at e
   cases e
   exact ⟨h1,h2,h3,by dsimp only;omega,by dsimp only;omega,h6⟩
 | wipe=>
  simp only [bA] at e
  cases e
  refine ⟨h1,h2,by simpa using h3,by simpa using h4,h5,fun y hy=>?_⟩
  rcases uw hy with rfl|hy
  ·refine ⟨by simp only [List.length_append,List.length_take,List.length_drop,List.length_replicate];omega,eT (kA g2 fun c hc=>List.mem_of_mem_take hc) ?_⟩
   simp only [plain,List.all_eq_true]
   intro z hz
   rw [(List.mem_replicate.1 hz).2];decide
  ·exact h6 y hy
noncomputable def rn (a:Option St) (os:List Od):Option St:=os.foldl (fun a o=>a.bind fun s=>bA s o) a
theorem jv (a:Option St) (o:Od) (os:List Od):rn a (o::os)=rn (a.bind fun s=>bA s o) os:=rfl
theorem gF (a:Option St) (os ps:List Od):rn a (os++ps)=rn (rn a os) ps:=List.foldl_append ..
theorem fX:∀ os:List Od,rn none os=none
 | []=>rfl
 | _::os=>fX os
theorem DR:∀ (os:List Od) {s s':St},GS s->(∀ o∈os,okO o=true)->rn (some s) os=some s'->GS s'
 | [],s,s',h,_,e=>by cases e;exact h
 | o::os,s,s',h,ho,e=>by
  rw [jv,Option.bind_some] at e
  cases q:bA s o with
  | none=>rw [q,fX] at e;cases e
  | some s1=>
   rw [q] at e
   exact DR os (lf h (ho o (List.mem_cons_self ..)) q) (fun p hp=>ho p (List.mem_cons_of_mem _ hp)) e
theorem Hi (ns:List Int) (a:Nat):∃ s:St,GS s/\scS ns a=sD s/\s.1=wS ns a/\s.2.1.length=mS ns a:=by
 obtain ⟨w1,w2,_⟩:=mX ns a
 obtain ⟨m1,m2,_⟩:=nQ ns a
 have p1:=bo ns (a+5+400) (m:=(mS ns a:Int)) (by omega)
 have p2:=bo ns (a+5+401) (m:=(wS ns a:Int)+1) (by omega)
 refine ⟨(wS ns a,(List.range (mS ns a)).map (fun k=>vT ns (a+5+30 * k) (wS ns a)),(da ns (a+5+400) (mS ns a)).toNat,(da ns (a+5+401) (wS ns a+1)).toNat),⟨w1,by show wS ns a<=40;omega,by simp;omega,by simp;omega,by show (da ns (a+5+401) (wS ns a+1)).toNat<=wS ns a;omega,fun x hx=>?_⟩,?_,rfl,by simp⟩
 ·obtain ⟨k,_,rfl⟩:=List.mem_map.1 hx
  exact ⟨kM ns _ _,mK ns _ _⟩
 ·show D.tup _=D.tup _
  have e1:((da ns (a+5+400) (mS ns a)).toNat:Int)=da ns (a+5+400) (mS ns a):=by omega
  have e2:((da ns (a+5+401) (wS ns a+1)).toNat:Int)=da ns (a+5+401) (wS ns a+1):=by omega
  unfold pl sH
  dsimp only
  rw [e1,e2,List.map_map]
  rfl
noncomputable def KQ (os:List Od):Int:=((os.map bv).sum:Nat)
theorem nF {l tk:List D} {a:D} {s:St} {c:Int}:cT (cw (l++[st3 a (sD s) c]) tk) []=.rd (sD s):=ir _ l tk a (sD s) c []
theorem Br {l tk:List D} {a:D} {s:St} {c:Int}:dg (cw (l++[st3 a (sD s) c]) tk) []=.rd (.int c):=ir _ l tk a (sD s) c []
theorem Ea {Cs:Addr} {s:St} (h:GS s):wY (fk Cs) 1 [sD s]=.ok (cw [st3 (.str cO) (sD s) 0] []):=by
 have e:hZ Cs [sD s]=.ok .non:=kj h.screen
 unfold wY fk
 rw [if_pos (show [sD s].length=1 from rfl)]
 dsimp only
 rw [e]
noncomputable def ib (av:Addr):Ev->O:=(aH (cA (aI mkT (aa (g2 wf (nh av 0 0) (ciz 1)) (aa (nh av 0 1) nlz)))) oNx)
section
variable {Cb Cp:Addr}
noncomputable def cr:MF:=fun fs ds=>match D8 fs,ds with
 | some (sts,tk),[]=>.rd (.tup [.int ((sts.length:Int) - 1),.int (tk.length:Int)])
 | _,_=>.no
theorem zL:cW Cp (ib Cp) 1 cr:=by
 intro p fs ds
 unfold cr
 cases q:D8 fs with
 | none=>trivial
 | some z=>
  obtain ⟨sts,tk⟩:=z
  have e:=ze q
  subst e
  cases ds with
  | cons _ _=>trivial
  | nil=>
   dsimp only
   have f0:=fl0 sts tk
   have f1:=fl1 sts tk
   have o0:∀ m r,oY Cp (some (.obj m Cp p (cw sts tk))::r) 0=.ok (cw sts tk):=fun m r=>iA rfl
   have mk2:∀ x y,mkT [x,y]=.ok (.tup [x,y]):=fun _ _=>rfl
   show aH _ _ [some (.obj false Cp p (cw sts tk))]=_
   clear q
   walk_at "run"
end
section
variable {Cs Co Cr Cp:Addr}
inductive Dd where
 | scroll (z:Int)
 | ord (o:Od)
end
section
variable {Cs Co Cr:Addr}
theorem jU {n:Nat} {fs:List (Nat×Fd)} (ho:ρ[i]?=some (some (.obj true C p fs))) (ha:gl ρ=.ok ds) (hl:ds.length=n) (hF:F fs ds=.ok d fs'):fN C i n F gl ρ=.re d (ρ.set i (some (.obj true C p fs'))):=by
 unfold fN Hz
 rw [ho]
 dsimp only
 rw [if_pos rfl,R.ok_out,ha,R.ok_out]
 dsimp only
 rw [if_pos hl,hF];rfl
end
noncomputable def gG (aN bj:List D->R D):Ev->O:=(aH (oe (aK 1 aN (aa (rvz 0) nlz))) (aH (oIf (qV (gBn (aI jM (aI (iJ (·=="list")) (rvz 1)))) (gB2 gtD (gOf fu (aa (rvz 1) nlz)) (gOf fu (aa (g2 ixD (rvz 0) (ciz 1)) nlz)))) (aH (cA (fun _=>R.ok (D.bl false))) oNx) oNx) (aH (cA (gOf Ad (aa (cz (gm (aI bU (rvz 1)) [0] (fun _=>R.ok true) (mr (aK 1 bj (aa (rvz 0) nlz)) (g2 leD (gOf fu (aa (rvz 0) nlz)) (g2 ixD (rvz 1) (ciz 0)))))) nlz))) oNx)))
noncomputable def txt (m:Nat) (x:List Nat):Bool:=plain x && decide (x.length<=m)
theorem pW {x:List Nat} (h:x.length<=1000):jK [.str x]=.ok (.bl (plain x)):=if_pos (Nat.le_trans h bL)
theorem FW (f:Bool) (ds:List D):Ad [.lst f (ds.map fun _=>D.bl true)]=some (.bl true):=by
 have:=jX (fun _=>true) f ds
 rw [this];simp
theorem Hr {x y:List D} (h:x.length+y.length<=sizeLine):bX (.lst false x) (.lst false y)=some (.lst false (x++y)):=by simp only [bX];rw [if_pos h]
noncomputable def bi (n wd:Nat) (xs:List (List Nat)):Bool:=decide (xs.length<=n) && xs.all (txt wd)
theorem nH (c:Nat) (x:D) (xs:List D):bF c (x::xs)=.tup [.int (c:Int),x]::bF (c+1) xs:=by
 unfold bF
 rw [List.length_cons,List.range_succ_eq_map,List.map_cons,List.map_map]
 refine congrArg (_::·) (List.map_congr_left fun i _=>?_)
 simp only [Function.comp,List.getD_cons_succ]
 congr 2
 congr 1
 congr 1
 omega
theorem qL (c:Nat):bF c []=[]:=rfl
noncomputable def tJ (rows:List D) (wd:Nat):Prop:=∀ r∈rows,∃ x,r=D.str x/\x.length=wd/\plain x=true
theorem qu {x y:List Nat} (h1:plain x=true) (h2:plain y=true):plain (x++y)=true:=by
 simp only [plain,List.all_append,Bool.and_eq_true] at *;exact ⟨h1,h2⟩
theorem uZ {x:List Nat} (n:Nat) (h:plain x=true):plain (x.take n)=true:=by
 simp only [plain,List.all_eq_true] at *;exact fun c hc=>h c (List.mem_of_mem_take hc)
theorem va {x:List Nat} (n:Nat) (h:plain x=true):plain (x.drop n)=true:=by
 simp only [plain,List.all_eq_true] at *;exact fun c hc=>h c (List.mem_of_mem_drop hc)
theorem oV {α:Type} (x:List α) (n:Nat):jh x (some (n:Int)) none=x.drop n:=by
 unfold jh
 rw [HT.sIx_nat,HT.sIx_none]
 by_cases h:n<=x.length
 ·rw [Nat.min_eq_left h,List.take_of_length_le (by simp)]
 ·rw [Nat.min_eq_right (by omega),List.drop_length,List.take_nil,List.drop_of_length_le (by omega)]
theorem wT {α:Type} (x:List α) (n:Nat):jh x none (some (n:Int))=x.take n:=by
 unfold jh
 rw [HT.sIx_nat,HT.sIx_none,List.drop_zero,Nat.sub_zero]
 by_cases h:n<=x.length
 ·rw [Nat.min_eq_left h]
 ·rw [Nat.min_eq_right (by omega),List.take_of_length_le (by omega),List.take_of_length_le (by omega)]
noncomputable def cZ (eX:List D->R D) (bC:Addr):Ev->O:=(aH (oIf (gBn (aI jM (aK 2 eX (aa (rvz 0) (aa (rvz 1) nlz))))) (aH (lv bC (aa (csz [116,104,101,115,101,32,97,114,101,32,110,111,32,114,111,119,115,32,116,104,97,116,32,116,104,101,32,115,99,114,101,101,110,32,99,97,110,32,115,104,111,119]) nlz)) oNx) oNx) oNx)
noncomputable def fw:Ev->O:=(aH (fP 2 (g2 ixD (rvz 0) (ciz 0))) (aH (fP 3 (g2 wf (gOf fu (aa (g2 ixD (rvz 0) (ciz 1)) nlz)) (gOf fu (aa (rvz 1) nlz)))) (aH (cA (g2 bX (cz (gm (aI bU (rvz 1)) [2] (fun _=>R.ok true) (lU "str" ly (rvz 0) (aa (rvz 1) nlz)))) (g2 gN (cz (wB (aa (g2 gN (csz [32]) (rvz 2)) nlz))) (rvz 3)))) oNx)))
noncomputable def yc (wd:Nat) (x:List Nat):List Nat:=x++List.replicate (wd - x.length) 32
noncomputable def HV:D->List Nat
 | .str x=>x
 | _=>[]
theorem vf (n c:Nat) (h:(decide (32<=c) && decide (c<=126))=true):plain (List.replicate n c)=true:=by
 simp only [plain,List.all_eq_true]
 intro x hx
 rw [(List.mem_replicate.1 hx).2];exact h
noncomputable def fD (aA bB:List D->R D):Ev->O:=(aH (fP 6 (aK 3 aA (aa (rvz 0) (aa (g2 bX (rvz 1) (g2 gN (ciz 40) (rvz 4))) (aa (ciz 4) nlz))))) (aH (oIf (gB2 eqF (rvz 6) (ciz 0)) (aH (fP 5 (aK 3 bB (aa (rvz 0) (aa (g2 bX (g2 bX (rvz 1) (g2 gN (ciz 40) (rvz 4))) (ciz 1)) (aa (g2 ixD (rvz 2) (ciz 0)) nlz))))) oNx) (aH (oIf (gB2 ltD (rvz 6) (ciz 3)) (aH (fP 7 (aK 3 aA (aa (rvz 0) (aa (g2 bX (g2 bX (rvz 1) (g2 gN (ciz 40) (rvz 4))) (ciz 30)) (aa (g2 ixD (rvz 2) (ciz 0)) nlz))))) (aH (fP 5 (g2 bX (g2 bX (gSl (rvz 5) (fun _=>R.ok none) (jH (rvz 7))) (g2 ixD (csz [97,98,32,35]) (aK 3 aA (aa (rvz 0) (aa (g2 bX (g2 bX (rvz 1) (g2 gN (ciz 40) (rvz 4))) (ciz 31)) (aa (ciz 4) nlz)))))) (gSl (rvz 5) (jH (g2 bX (rvz 7) (ciz 1))) (fun _=>R.ok none)))) oNx)) oNx) oNx)) (aH (Hy 3 (lU "str" dM (rvz 5) (aa (csz [32]) nlz))) oNx)))
noncomputable def gA (aA bB:List D->R D):Ev->O:=(aH (EZ 3 (wB nlz)) (aH (vQ (Al [4,5]) (aI sS (g2 ixD (rvz 2) (ciz 1))) (fD aA bB)) (Ft 3 (aH (cA (gSl (rvz 3) (fun _=>R.ok none) (jH (g2 wf (gOf fu (aa (rvz 3) nlz)) (aK 3 aA (aa (rvz 0) (aa (g2 bX (rvz 1) (ciz 399)) (aa (ciz 2) nlz)))))))) oNx))))
theorem AK:20000<=sizeLine:=by decide
theorem vM (g:Nat->Bool) (l:List Nat):l.take (l.length - (l.reverse.takeWhile g).length)=(l.reverse.dropWhile g).reverse:=by
 have e:l.reverse=l.reverse.takeWhile g++l.reverse.dropWhile g:=List.takeWhile_append_dropWhile.symm
 generalize l.reverse.takeWhile g=a at *
 generalize l.reverse.dropWhile g=b at *
 have e2:l=b.reverse++a.reverse:=by rw [<- List.reverse_append,<- e,List.reverse_reverse]
 subst e2
 rw [List.take_left' (by simp)]
theorem uL (g:Nat->Bool) (X:PySem.Str):(PySem.Txt.stripBy g false true X).cps.toList=(X.cps.toList.reverse.dropWhile g).reverse:=by
 rw [<- vM]
 have hl:X.length=X.cps.toList.length:=by simp [PySem.Str.length]
 have h0:PySem.stripLo g false X=0:=rfl
 have h1:PySem.stripHi g true X 0=X.cps.toList.length - (X.cps.toList.reverse.takeWhile g).length:=by
  rw [<- hl];rfl
 unfold PySem.Txt.stripBy
 split
 ·rename_i hs
  unfold PySem.stripSame at hs
  rw [h0,h1,Bool.and_eq_true,beq_iff_eq,beq_iff_eq,hl] at hs
  rw [hs.2,List.take_length]
 ·unfold PySem.stripped
  rw [h0,h1]
  show (X.cps.extract 0 _).toList=_
  rw [Array.toList_extract]
  simp [List.extract_eq_take_drop]
theorem gP (x:List Nat) (c:Nat):bf x [c]=(x.reverse.dropWhile fun d=>[c].contains d).reverse:=by
 show (PySem.Txt.stripBy _ false true _).cps.toList=_
 rw [uL]
 have e:(fun d=>#[c].contains d)=fun d=>[c].contains d:=by funext d;simp
 show (x.toArray.toList.reverse.dropWhile fun d=>#[c].contains d).reverse=_
 rw [e]
theorem pF {x:List Nat} {m:Nat} (h:plain x=true) (hl:x.length<=m):plain (bf x [32])=true/\(bf x [32]).length<=m:=by
 rw [gP]
 have hs:(x.reverse.dropWhile fun d=>[32].contains d).Sublist x.reverse:=List.dropWhile_sublist _
 refine ⟨?_,?_⟩
 ·simp only [plain,List.all_eq_true,List.mem_reverse] at h ⊢
  intro c hc
  exact h c (List.mem_reverse.1 (hs.subset hc))
 ·have:=hs.length_le
  simp at this ⊢
  omega
noncomputable def chG (ns:List Int) (k:Nat):Nat:=([97,98,32,35]:List Nat).getD (da ns k 4).toNat 0
theorem FK (ns:List Int) (k:Nat):ixD (.str [97,98,32,35]) (.int (da ns k 4))=some (.str [chG ns k]):=by
 have h:=bo ns k (m:=4) (by decide)
 unfold chG
 generalize da ns k 4=v at h
 have:v=0\/v=1\/v=2\/v=3:=by omega
 rcases this with rfl|rfl|rfl|rfl <;> rfl
theorem ya (ns:List Int) (k:Nat):32<=chG ns k/\chG ns k<=126:=by
 have h:=bo ns k (m:=4) (by decide)
 unfold chG
 generalize da ns k 4=v at h
 have:v=0\/v=1\/v=2\/v=3:=by omega
 rcases this with rfl|rfl|rfl|rfl <;> decide
noncomputable def B0 (ns:List Int) (a wd:Nat) (x:List Nat):List Nat:=
 if da ns a 4=0 then vT ns (a+1) wd else if da ns a 4<3 then x.take (da ns (a+30) wd).toNat++[chG ns (a+31)]++x.drop ((da ns (a+30) wd).toNat+1) else x
theorem Dj (ns:List Int) (a:Nat) {wd:Nat} (hw:1<=wd) {x:List Nat} (hl:x.length=wd) (hp:plain x=true):plain (B0 ns a wd x)=true/\(B0 ns a wd x).length=wd:=by
 have h:=bo ns (a+30) (m:=(wd:Int)) (by omega)
 unfold B0
 split
 ·exact ⟨mK _ _ _,kM _ _ _⟩
 ·split
  ·have hc:=ya ns (a+31)
   refine ⟨qu (qu (uZ _ hp) ?_) (va _ hp),by simp;omega⟩
   simp [plain,hc.1,hc.2]
  ·exact ⟨hp,hl⟩
noncomputable def gTx (ns:List Int) (a wd k:Nat) (r:D):List Nat:=bf (B0 ns (a+40 * k) wd (HV r)) [32]
noncomputable def lx (ns:List Int) (a wd:Nat):Nat->List D->List (List Nat)
 | _,[]=>[]
 | k,r::rs=>gTx ns a wd k r::lx ns a wd (k+1) rs
theorem gz (ns:List Int) (a wd:Nat):∀ (rs:List D) (k:Nat),(lx ns a wd k rs).length=rs.length
 | [],_=>rfl
 | r::rs,k=>by rw [lx,List.length_cons,gz ns a wd rs,List.length_cons]
theorem tZ (ns:List Int) (a:Nat) {wd:Nat} (hw:1<=wd):∀ (rs:List D) (k:Nat),tJ rs wd->∀ x∈lx ns a wd k rs,plain x=true/\x.length<=wd
 | [],_,_,x,h=>by cases h
 | r::rs,k,hr,x,h=>by
  rcases List.mem_cons.1 h with rfl|h
  ·obtain ⟨y,rfl,h1,h2⟩:=hr r (List.mem_cons_self ..)
   obtain ⟨a1,a2⟩:=Dj ns (a+40 * k) hw h1 h2
   exact pF a1 (by show (B0 ns (a+40 * k) wd y).length<=wd;omega)
  ·exact tZ ns a hw rs (k+1) (fun r m=>hr r (List.mem_cons_of_mem _ m)) x h
theorem qg (ns:List Int) (fz:Bool) (a:Nat) {wd:Nat} (hw:1<=wd) (hw2:wd<=40) (rows:D) (p:D):∀ (rs:List D) (k:Nat) (x4 x5 x6 x7:Option Sl) (acc:List D),tJ rs wd->acc.length+rs.length<=100->∃ y4 y5 y6 y7,cN (Al [4,5]) (fD eO BG) (bF k rs) [some (.val (.lst fz (ns.map .int))),some (.val (.int (a:Int))),some (.val (.tup [.int (wd:Int),rows,p])),some (.own acc),x4,x5,x6,x7]
  = .nx [some (.val (.lst fz (ns.map .int))),some (.val (.int (a:Int))),some (.val (.tup [.int (wd:Int),rows,p])),some (.own (acc++(lx ns a wd k rs).map .str)),y4,y5,y6,y7]
 | [],k,x4,x5,x6,x7,acc,_,_=>⟨x4,x5,x6,x7,by rw [qL,tR,lx,List.map_nil,List.append_nil]⟩
 | r::rs,k,x4,x5,x6,x7,acc,hr,ha=>by
  simp only [List.length_cons] at ha
  obtain ⟨x,rfl,h1,h2⟩:=hr r (List.mem_cons_self ..)
  have hB:∃ y5 y6 y7,fD eO BG [some (.val (.lst fz (ns.map .int))),some (.val (.int (a:Int))),some (.val (.tup [.int (wd:Int),rows,p])),some (.own acc),some (.val (.int (k:Int))),some (.val (.str x)),x6,x7]
    = .nx [some (.val (.lst fz (ns.map .int))),some (.val (.int (a:Int))),some (.val (.tup [.int (wd:Int),rows,p])),some (.own (acc++[.str (bf (B0 ns (a+40 * k) wd x) [32])])),some (.val (.int (k:Int))),y5,y6,y7]:=by
   have lb:=AK
   have hpk:=bo ns (a+40 * k) (m:=4) (by decide)
   have hps:=bo ns (a+40 * k+30) (m:=(wd:Int)) (by omega)
   obtain ⟨sp,esp⟩:=Int.eq_ofNat_of_zero_le hps.1
   have m1:gN (.int 40) (.int (k:Int))=some (.int ((40 * k:Nat):Int)):=by rw [BW (by decide)];congr 2
   have k1:(a:Int)+((40 * k:Nat):Int)=((a+40 * k:Nat):Int):=by omega
   have k2:((a+40 * k:Nat):Int)+1=((a+40 * k+1:Nat):Int):=by omega
   have k3:((a+40 * k:Nat):Int)+30=((a+40 * k+30:Nat):Int):=by omega
   have k4:((a+40 * k:Nat):Int)+31=((a+40 * k+31:Nat):Int):=by omega
   have k5:(sp:Int)+1=((sp+1:Nat):Int):=by omega
   have p1:eO [.lst fz (ns.map .int),.int ((a+40 * k:Nat):Int),.int 4]=.ok (.int (da ns (a+40 * k) 4)):=cb (by decide)
   have p2:eO [.lst fz (ns.map .int),.int ((a+40 * k+30:Nat):Int),.int (wd:Int)]=.ok (.int (sp:Int)):=by rw [<- esp];exact cb (by omega)
   have p3:eO [.lst fz (ns.map .int),.int ((a+40 * k+31:Nat):Int),.int 4]=.ok (.int (da ns (a+40 * k+31) 4)):=cb (by decide)
   have r1:BG [.lst fz (ns.map .int),.int ((a+40 * k+1:Nat):Int),.int (wd:Int)]=.ok (.str (vT ns (a+40 * k+1) wd)):=tW (by omega)
   have c1:=FK ns (a+40 * k+31)
   have y0:=LO (.int (wd:Int)) rows p
   have d1:=wT x sp
   have d2:=oV x (sp+1)
   have a1:bX (.str (x.take sp)) (.str [chG ns (a+40 * k+31)])=some (.str (x.take sp++[chG ns (a+40 * k+31)])):=zQ (by simp;omega)
   have a2:bX (.str (x.take sp++[chG ns (a+40 * k+31)])) (.str (x.drop (sp+1)))=some (.str (x.take sp++[chG ns (a+40 * k+31)]++x.drop (sp+1))):=zQ (by simp;omega)
   have z:acc.length<sizeLine:=by omega
   have o3:∀ (a0 a1 a2 a4 a5 a6 a7:Option Sl) (ds:List D),ownAt [a0,a1,a2,some (.own ds),a4,a5,a6,a7] 3=.ok ds:=fun _ _ _ _ _ _ _ _=>rfl
   have kd:∀ z:List Nat,mf "str" (.str z)=true:=fun _=>rfl
   have rs':∀ z w:List Nat,dM (.str z) [.str w]=some (.str (bf z w)):=fun _ _=>rfl
   unfold fD B0
   rw [esp,Int.toNat_natCast]
   by_cases q:da ns (a+40 * k) 4=0
   ·refine ⟨some (.val (.str (vT ns (a+40 * k+1) wd))),some (.val (.int (da ns (a+40 * k) 4))),x7,?_⟩
    have q1:(da ns (a+40 * k) 4==0)=true:=by simp [q]
    rw [if_pos q]
    clear hr ha h1 h2 lb hpk hps esp q
    walk_at "run"
   ·have q1:(da ns (a+40 * k) 4==0)=false:=by simp [q]
    rw [if_neg q]
    by_cases q2:da ns (a+40 * k) 4<3
    ·refine ⟨some (.val (.str (x.take sp++[chG ns (a+40 * k+31)]++x.drop (sp+1)))),some (.val (.int (da ns (a+40 * k) 4))),some (.val (.int (sp:Int))),?_⟩
     have q3:decide (da ns (a+40 * k) 4<3)=true:=by simp [q2]
     rw [if_pos q2]
     clear hr ha h1 h2 lb hpk hps esp q q2
     walk_at "run"
    ·refine ⟨some (.val (.str x)),some (.val (.int (da ns (a+40 * k) 4))),x7,?_⟩
     have q3:decide (da ns (a+40 * k) 4<3)=false:=by simp;omega
     rw [if_neg q2]
     clear hr ha h1 h2 lb hpk hps esp q q2
     walk_at "run"
  obtain ⟨z5,z6,z7,hB⟩:=hB
  obtain ⟨y4,y5,y6,y7,ih⟩:=qg ns fz a hw hw2 rows p rs (k+1) (some (.val (.int (k:Int)))) z5 z6 z7 (acc++[.str (bf (B0 ns (a+40 * k) wd x) [32])]) (fun r m=>hr r (List.mem_cons_of_mem _ m)) (by simp;omega)
  refine ⟨y4,y5,y6,y7,?_⟩
  rw [nH,iz (ρ1:=[some (.val (.lst fz (ns.map .int))),some (.val (.int (a:Int))),some (.val (.tup [.int (wd:Int),rows,p])),some (.own acc),some (.val (.int (k:Int))),some (.val (.str x)),x6,x7]) rfl hB,ih,lx,List.map_cons,List.append_assoc];rfl
noncomputable def rN (ns:List Int) (a wd:Nat) (rows:List D):List (List Nat):=(lx ns a wd 0 rows).take (rows.length - (da ns (a+399) 2).toNat)
noncomputable abbrev vL (f:Bool) (n:List Int):Option Sl:=some (.val (.lst f (n.map .int)))
noncomputable abbrev vI (n:Nat):Option Sl:=some (.val (.int (n:Int)))
noncomputable abbrev vD (d:D):Option Sl:=some (.val d)
noncomputable abbrev vS (x:List Nat):Option Sl:=some (.val (.str x))
noncomputable abbrev vO (c p:Addr) (f:List (Nat×Fd)):Option Sl:=some (.obj true c p f)
noncomputable def Iz:List D->R D:=fun ds=>az (jr jK (ax 1 ds))
noncomputable def goG:List D->R D:=fun ds=>az (km zg (ax 1 ds))
noncomputable def Jc:List D->R D:=fun ds=>az (fW Iz goG (ax 1 ds))
noncomputable def ckG (C:Addr):List D->R D:=fun ds=>az (dI Jc C (ax 1 ds))
noncomputable def ES (C:Addr):List D->R D:=fun ds=>az (dj (ckG C) C (ax 2 ds))
noncomputable def isS:Od->Bool
 | .say _=>true
 | _=>false
noncomputable def isG:Od->Bool
 | .go _ _=>true
 | _=>false
theorem JB {o:Od} (h:okO o=true):Iz [oD o]=.ok (.bl (isS o)):=by
 cases o with
 | say x=>
  simp only [okO,Bool.and_eq_true,decide_eq_true_eq] at h
  have i1:jK [.str x]=.ok (.bl true):=by rw [pW (by omega),h.1]
  have d1:decide ((1:Int)<=(x.length:Int))=true:=by rw [decide_eq_true_eq];omega
  have d2:decide ((x.length:Int)<=40)=true:=by rw [decide_eq_true_eq];omega
  have e1:fu [oD (.say x)]=some (.int 2):=rfl
  have e2:ixD (oD (.say x)) (.int 0)=some (.str [115,97,121]):=rfl
  have e3:ixD (oD (.say x)) (.int 1)=some (.str x):=rfl
  have q0:eqF (.str [115,97,121]) (.str [115,97,121])=some (.bl true):=rfl
  have q1:eqF (.int 2) (.int 2)=some (.bl true):=rfl
  show az (aH _ _ [vD (oD (.say x))])=.ok (.bl true)
  clear h
  generalize oD (.say x)=u at *
  walk_at "run"
 | go r c=>rfl
 | wipe=>rfl
theorem Lq {o:Od} (h:okO o=true):goG [oD o]=.ok (.bl (isG o)):=by
 cases o with
 | go r c=>
  simp only [okO,Bool.and_eq_true,decide_eq_true_eq] at h
  have i1:zg [.int (r:Int),.int 0,.int 11]=.ok (.bl true):=by
   show R.ok (D.bl (decide (0<=(r:Int)) && decide ((r:Int)<=11)))=_
   rw [decide_eq_true (by omega),decide_eq_true (by omega)];rfl
  have i2:zg [.int (c:Int),.int 0,.int 40]=.ok (.bl true):=by
   show R.ok (D.bl (decide (0<=(c:Int)) && decide ((c:Int)<=40)))=_
   rw [decide_eq_true (by omega),decide_eq_true (by omega)];rfl
  have e1:fu [oD (.go r c)]=some (.int 3):=rfl
  have e2:ixD (oD (.go r c)) (.int 0)=some (.str [103,111]):=rfl
  have e3:ixD (oD (.go r c)) (.int 1)=some (.int (r:Int)):=rfl
  have e4:ixD (oD (.go r c)) (.int 2)=some (.int (c:Int)):=rfl
  have q0:neF (.str [103,111]) (.str [103,111])=some (.bl false):=rfl
  have q1:neF (.int 3) (.int 3)=some (.bl false):=rfl
  have q2:wf (.int 12) (.int 1)=some (.int 11):=rfl
  show az (aH _ _ [vD (oD (.go r c))])=.ok (.bl true)
  clear h
  generalize oD (.go r c)=u at *
  walk_at "run"
 | say x=>rfl
 | wipe=>rfl
theorem IU {o:Od} (h:okO o=true):Jc [oD o]=.ok (.bl true):=by
 have h1:=JB h
 have h2:=Lq h
 have e1:iJ (·=="tuple") (oD o)=.ok (.bl true):=by cases o <;> rfl
 have e2:mkT [.str [119,105,112,101]]=.ok (oD .wipe):=rfl
 have e3:eqF (oD .wipe) (oD .wipe)=some (.bl true):=rfl
 show az (aH _ _ [vD (oD o)])=_
 clear h
 cases o with
 | say x=>change _=R.ok (D.bl true) at h1;generalize oD (.say x)=u at *;walk_at "run"
 | go r c=>change _=R.ok (D.bl false) at h1;change _=R.ok (D.bl true) at h2;generalize oD (.go r c)=u at *;walk_at "run"
 | wipe=>change _=R.ok (D.bl false) at h1;change _=R.ok (D.bl false) at h2;generalize oD .wipe=u at *;walk_at "run"
theorem KT {o:Od} (h:okO o=true):ckG C [oD o]=.ok .non:=by
 have h1:=IU h
 show az (aH _ _ [vD (oD o)])=_
 generalize oD o=u at *
 walk_at "run"
theorem GH {f:Bool} {os:List Od} (h:∀ o∈os,okO o=true):ES C [.lst f (os.map oD)]=.ok .non:=by
 have lp:∀ (os:List Od) (x1:Option Sl),(∀ o∈os,okO o=true)->∃ y1,cN (lX 1) (dH (ckG C) C) (os.map oD) [vD (.lst f (os.map oD)),x1]=.nx [vD (.lst f (os.map oD)),y1]:=fun os=>by
  generalize vD (.lst f (os.map oD))=x0
  induction os with
  | nil=>exact fun x1 _=>⟨x1,rfl⟩
  | cons o os ih=>
   intro x1 h
   obtain ⟨y1,e⟩:=ih (vD (oD o)) fun o ho=>h o (List.mem_cons_of_mem _ ho)
   refine ⟨y1,(iz (ρ2:=[x0,vD (oD o)]) rfl ?_).trans e⟩
   have h1:=KT (C:=C) (h o (List.mem_cons_self ..))
   unfold dH
   generalize oD o=u at *
   clear h ih e
   walk_at "run"
 obtain ⟨y1,e⟩:=lp os none h
 have e1:iJ (·=="list") (.lst f (os.map oD))=.ok (.bl true):=rfl
 have e2:bU (.lst f (os.map oD))=.ok (os.map oD):=rfl
 show az (aH _ _ [vD (.lst f (os.map oD)),none])=_
 clear h lp
 walk_at "run"
noncomputable def ocG:List D->R D:=fun ds=>az (eP (ax 1 ds))
theorem Kd (o:Od):ocG [oD o]=.ok (.int (bv o:Int)):=by cases o <;> rfl
noncomputable def coG (C:Addr):List D->R D:=fun ds=>az (nA (ES C) ocG (ax 1 ds))
theorem pG {α:Type} {ge:Ev->R D} (f g:α->D) (tl:Ev):∀ (xs:List α) (a:Option Sl),(∀ x∈xs,ge (vD (f x)::tl)=.ok (g x))->fM (fun _=>R.ok true) ge (xs.map f) (a::tl)=.ok (xs.map g)
 | [],_,_=>rfl
 | x::xs,a,h=>by
  have ih:=pG (ge:=ge) f g tl xs (vD (f x)) fun y hy=>h y (List.mem_cons_of_mem _ hy)
  have h1:=h x (List.mem_cons_self ..)
  unfold fM at ih ⊢
  rw [List.map_cons,List.map_cons,gD]
  show (fK (ge (vD (f x)::tl))>>=fun z=>gD (lX 0) (fun _=>R.ok true) ge (xs.map f) (vD (f x)::tl)>>=fun zs=>R.ok (z::zs))=_
  rw [h1,ih];rfl
theorem JC:∀ os:List Od,ED [.lst false (os.map fun o=>D.int (bv o:Int))]=some (.int ((os.map bv).sum:Nat)):=fun os=>by
 have key:oK (os.map fun o=>D.int (bv o:Int))=some (os.map fun o=>(bv o:Int)):=by
  induction os with
  | nil=>rfl
  | cons o l ih=>rw [List.map_cons,oK,ih];rfl
 have key2:(os.map fun o=>(bv o:Int)).sum=((os.map bv).sum:Nat):=by
  clear key
  induction os with
  | nil=>rfl
  | cons o l ih=>rw [List.map_cons,List.sum_cons,ih,List.map_cons,List.sum_cons,Int.natCast_add]
 simp only [ED,key,key2]
theorem Lw {f:Bool} {os:List Od} (h:∀ o∈os,okO o=true) (hl:os.length<=1000):coG C [.lst f (os.map oD)]=.ok (.int ((os.map bv).sum:Nat)):=by
 have h1:=GH (C:=C) (f:=f) h
 have c1:=pG (ge:=aK 1 ocG (aa (rvz 0) nlz)) oD (fun o=>.int (bv o:Int)) [] os none (fun o _=>by rw [yM,show ∀ i ρ,rvz i ρ=rdV ρ i from fun _ _=>rfl,rd0,R.ok_bind,Kd])
 have e2:bU (.lst f (os.map oD))=.ok (os.map oD):=rfl
 have z:(os.map fun o=>D.int (bv o:Int)).length<=sizeLine:=by have:=bL;rw [List.length_map];omega
 have sm:=JC os
 have i0:∀ x:Option Sl,hU [] [x]=[none]:=fun _=>rfl
 show az (aH _ _ [vD (.lst f (os.map oD))])=_
 clear h hl
 walk_at "run"
noncomputable def jnG:List D->R D:=fun ds=>az (cM (ax 3 ds))
theorem LM {o p:Od} (hn:oZ o+oZ p<=1000):jnG [oD o,oD p]=.ok (jD (eK o p)):=by
 cases o with
 | say x=>
  cases p with
  | say y=>
   simp only [oZ] at hn
   have a1:bX (.str x) (.str y)=some (.str (x++y)):=zQ (by have:=bL;omega)
   have x0:∀ z:List Nat,ixD (oD (.say z)) (.int 0)=some (.str [115,97,121]):=fun _=>rfl
   have x1:∀ z:List Nat,ixD (oD (.say z)) (.int 1)=some (.str z):=fun _=>rfl
   have q0:neF (.str [115,97,121]) (.str [115,97,121])=some (.bl false):=rfl
   have m2:∀ v:List Nat,mkT [.str [115,97,121],.str v]=.ok (oD (.say v)):=fun _=>rfl
   have ej:eK (.say x) (.say y)=if x.length+y.length<=40 then some (.say (x++y)) else none:=rfl
   show az (aH _ _ [vD (oD (.say x)),vD (oD (.say y)),none])=_
   rw [ej]
   by_cases h:x.length+y.length<=40
   ·have d1:decide (((x++y).length:Int)<=40)=true:=by rw [decide_eq_true_eq,List.length_append];omega
    have e9:jD (if x.length+y.length<=40 then some (.say (x++y)) else none)=oD (.say (x++y)):=by rw [if_pos h];rfl
    rw [e9]
    clear hn h ej e9
    walk_at "run"
   ·have d1:decide (((x++y).length:Int)<=40)=false:=by rw [decide_eq_false_iff_not,List.length_append];omega
    have e9:jD (if x.length+y.length<=40 then some (.say (x++y)) else none)=.non:=by rw [if_neg h];rfl
    rw [e9]
    clear hn h ej e9
    walk_at "run"
  | go r c=>rfl
  | wipe=>rfl
 | go r c=>cases p <;> rfl
 | wipe=>cases p <;> rfl
theorem Aq {l o j:Od} (h:eK l o=some j) (h1:okO l=true) (h2:okO o=true):okO j=true:=by
 cases l <;> cases o <;> first|(simp [eK] at h;done)|skip
 ·simp only [eK] at h
  split at h
  ·cases h
   simp only [okO,Bool.and_eq_true,decide_eq_true_eq] at *
   exact ⟨eT h1.1 h2.1,by simp;omega,by simp;omega⟩
  ·cases h
 ·simp only [eK,Option.some.injEq] at h;subst h;exact h2
 ·simp only [eK,Option.some.injEq] at h;subst h;exact h2
theorem oh {acc:List Od} {o:Od} (h1:∀ p∈acc,okO p=true) (h2:okO o=true):∀ p∈dG acc o,okO p=true:=by
 rcases AV acc with rfl|⟨a,l,rfl⟩
 ·intro p hp
  rw [qD] at hp
  rw [List.mem_singleton.1 hp];exact h2
 ·cases hj:eK l o with
  | none=>
   intro p hp
   rw [iI hj] at hp
   rcases List.mem_append.1 hp with hp|hp
   ·exact h1 p hp
   ·rw [List.mem_singleton.1 hp];exact h2
  | some j=>
   intro p hp
   rw [gX hj] at hp
   rcases List.mem_append.1 hp with hp|hp
   ·exact h1 p (List.mem_append_left _ hp)
   ·rw [List.mem_singleton.1 hp];exact Aq hj (h1 l (by simp)) h2
theorem tY:∀ (os acc:List Od),(∀ p∈acc,okO p=true)->(∀ p∈os,okO p=true)->∀ p∈os.foldl dG acc,okO p=true
 | [],acc,h,_=>h
 | o::os,acc,h1,h2=>tY os (dG acc o) (oh h1 (h2 o (List.mem_cons_self ..))) fun p hp=>h2 p (List.mem_cons_of_mem _ hp)
theorem lP:∀ (os acc:List Od),(os.foldl dG acc).length<=acc.length+os.length/\((os.foldl dG acc).map bv).sum<=(acc.map bv).sum+(os.map bv).sum
 | [],acc=>by simp
 | o::os,acc=>by
  obtain ⟨_,a2,a3⟩:=uv acc o
  obtain ⟨b2,b3⟩:=lP os (dG acc o)
  simp only [List.foldl_cons,List.length_cons,List.map_cons,List.sum_cons]
  omega
theorem D5 {os:List Od} (h:∀ o∈os,okO o=true):∀ o∈shO os,okO o=true:=tY os [] (fun _ h=>by cases h) h
theorem Bv {o:Od} (h:okO o=true):oZ o<=40:=by
 cases o with
 | say x=>simp only [okO,Bool.and_eq_true,decide_eq_true_eq] at h;exact h.2.2
 | _=>exact Nat.zero_le _
noncomputable def shG (C:Addr):List D->R D:=fun ds=>az (fA (ES C) jnG (ax 4 ds))
theorem FS {F:List D->R D} (x0 x3:Option Sl) (acc:List Od) (o:Od) (hs:∀ p∈acc,okO p=true) (ho:okO o=true) (ha:acc.length<1000):∃ y3,eE F jnG [x0,some (.own (acc.map oD)),vD (oD o),x3]=.nx [x0,some (.own ((dG acc o).map oD)),vD (oD o),y3]:=by
 have z:(acc.map oD).length<sizeLine:=by have:=bL;rw [List.length_map];omega
 have f1:∀ (a0 a2 a3:Option Sl) (ds:List D),frz 1 [a0,some (.own ds),a2,a3]=[a0,some (.val (.lst false ds)),a2,a3]:=fun _ _ _ _=>rfl
 have o1:∀ (a0 a2 a3:Option Sl) (ds:List D),ownAt [a0,some (.own ds),a2,a3] 1=.ok ds:=fun _ _ _ _=>rfl
 have ng1:A3 (.int 1)=.ok (.int (-1)):=rfl
 have i1:isF .non .non=some (.bl true):=rfl
 have i2:∀ o:Od,isF (oD o) .non=some (.bl false):=fun o=>by cases o <;> rfl
 have fl1:=JJ
 have fl2:fl 10 .non=true:=rfl
 have e8:∀ i:Int,asI (.int i)=.ok i:=fun _=>rfl
 unfold eE
 rcases AV acc with rfl|⟨a,l,rfl⟩
 ·exact ⟨vD .non,rfl⟩
 ·have em:(a++[l]).map oD=a.map oD++[oD l]:=by simp
  have ej:=LM (o:=l) (p:=o) (by have:=Bv (hs l (by simp));have:=Bv ho;omega)
  rw [em] at z ⊢
  have q1:decide ((0:Int)<((a.map oD++[oD l]).length:Int))=true:=by rw [decide_eq_true_eq,List.length_append];show (0:Int)<((_+1:Nat):Int);omega
  have ixl:ixN (a.map oD++[oD l]).length (-1)=some (a.map oD).length:=by
   unfold ixN
   rw [if_neg (by omega),if_pos (by simp;omega)]
   congr 1;simp;omega
  have l1:ixD (.lst false (a.map oD++[oD l])) (.int (-1))=some (oD l):=by
   show atI (a.map oD++[oD l]) (-1)=_
   unfold atI
   rw [ixl];simp
  cases hj:eK l o with
  | none=>
   rw [hj] at ej
   change _=R.ok D.non at ej
   refine ⟨vD .non,?_⟩
   rw [show (dG (a++[l]) o).map oD=a.map oD++[oD l]++[oD o] by rw [iI hj];simp]
   clear ha hs em hj ho
   walk_at "run"
  | some j=>
   rw [hj] at ej
   change _=R.ok (oD j) at ej
   refine ⟨vD (oD j),?_⟩
   have sl:(a.map oD++[oD l]).set (a.map oD).length (oD j)=a.map oD++[oD j]:=by simp
   rw [show (dG (a++[l]) o).map oD=a.map oD++[oD j] by rw [gX hj];simp]
   clear ha hs em hj ho
   walk_at "run"
theorem BO {F:List D->R D} (x0:Option Sl):∀ (os acc:List Od) (x2 x3:Option Sl),(∀ p∈acc,okO p=true)->(∀ o∈os,okO o=true)->acc.length+os.length<=1000->∃ y2 y3,cN (lX 2) (eE F jnG) (os.map oD) [x0,some (.own (acc.map oD)),x2,x3]=.nx [x0,some (.own ((os.foldl dG acc).map oD)),y2,y3]
 | [],acc,x2,x3,_,_,_=>⟨x2,x3,rfl⟩
 | o::os,acc,x2,x3,h1,h2,hl=>by
  have ho:=h2 o (List.mem_cons_self ..)
  rw [List.length_cons] at hl
  obtain ⟨y3,e⟩:=FS (F:=F) x0 x3 acc o h1 ho (by omega)
  obtain ⟨z2,z3,ih⟩:=BO (F:=F) x0 os (dG acc o) (vD (oD o)) y3 (oh h1 ho) (fun p hp=>h2 p (List.mem_cons_of_mem _ hp)) (by have:=(uv acc o).2.1;omega)
  exact ⟨z2,z3,(iz rfl e).trans ih⟩
theorem Lu {f:Bool} {os:List Od} (h:∀ o∈os,okO o=true) (hl:os.length<=1000):shG C [.lst f (os.map oD)]=.ok (.lst false ((shO os).map oD)):=by
 have h1:=GH (C:=C) (f:=f) h
 obtain ⟨y2,y3,e⟩:=BO (F:=ES C) (vD (.lst f (os.map oD))) os [] none none (fun _ h=>by cases h) h (by rw [List.length_nil];omega)
 have e2:bU (.lst f (os.map oD))=.ok (os.map oD):=rfl
 have f1:∀ (a0 a2 a3:Option Sl) (ds:List D),frz 1 [a0,some (.own ds),a2,a3]=[a0,some (.val (.lst false ds)),a2,a3]:=fun _ _ _ _=>rfl
 show az (aH _ _ [vD (.lst f (os.map oD)),none,none,none])=_
 rw [List.map_nil] at e
 have z:(0<=sizeLine)=True:=eq_true (Nat.zero_le _)
 unfold shO
 clear h hl
 walk_at "run"
noncomputable def arG (C:Addr):List D->R D:=fun ds=>az (gG (hZ C) jK (ax 2 ds))
noncomputable def crG (C:Addr):List D->R D:=fun ds=>az (cZ (arG C) C (ax 2 ds))
noncomputable def frG:List D->R D:=fun ds=>az (fw (ax 4 ds))
noncomputable def qY:List D->R D:=fun ds=>az (gA eO BG (ax 8 ds))
noncomputable def au (n wd:Nat) (xs:List (List Nat)):List (List Nat):=xs.map (yc wd)++List.replicate (n - xs.length) (List.replicate wd 32)
section
variable {s:St} {xs:List (List Nat)} {f:Bool}
theorem sZ (hx:bi s.2.1.length s.1 xs=true):xs.length<=s.2.1.length/\∀ x∈xs,plain x=true/\x.length<=s.1:=by
 simp only [bi,txt,Bool.and_eq_true,decide_eq_true_eq,List.all_eq_true] at hx;exact hx
theorem HU (h:GS s) (hx:bi s.2.1.length s.1 xs=true):arG C [sD s,.lst f (xs.map .str)]=.ok (.bl true):=by
 obtain ⟨h1,h2⟩:=sZ hx
 have hm:=h.m
 have hw:=h.w2
 have c1:=kj (C:=C) h.screen
 have x0:ixD (sD s) (.int 0)=some (.int (s.1:Int)):=rfl
 have x1:ixD (sD s) (.int 1)=some (.tup (s.2.1.map .str)):=rfl
 have cm:=pG (ge:=mr (aK 1 jK (aa (rvz 0) nlz)) (g2 leD (gOf fu (aa (rvz 0) nlz)) (g2 ixD (rvz 1) (ciz 0)))) D.str (fun _=>.bl true) [vD (sD s)] xs none (fun x hx=>by
  obtain ⟨p,l⟩:=h2 x hx
  have i1:jK [.str x]=.ok (.bl true):=by rw [pW (by omega),p]
  have d1:decide ((x.length:Int)<=(s.1:Int))=true:=by rw [decide_eq_true_eq];omega
  clear h hx c1 x1 h1 h2 hm hw
  generalize sD s=S at *
  walk_at "run")
 have z:(xs.map fun _=>D.bl true).length<=sizeLine:=by have:=bL;rw [List.length_map];omega
 have al:Ad [.lst false (xs.map fun _=>D.bl true)]=some (.bl true):=by have:=FW false (xs.map D.str);rw [List.map_map] at this;exact this
 have i1:∀ (d:D) (v:Option Sl),hU [0] [vD d,v]=[none,vD d]:=fun _ _=>rfl
 have q1:decide (((s.2.1.map D.str).length:Int)<((xs.map D.str).length:Int))=false:=by rw [List.length_map,List.length_map,decide_eq_false_iff_not];omega
 have y1:iJ (fun x=>x=="list") (.lst f (xs.map .str))=.ok (.bl true):=rfl
 have l1:=Kf f (xs.map D.str)
 show az (aH _ _ [vD (sD s),vD (.lst f (xs.map .str))])=_
 clear h1 h2 hm hw h hx x0
 generalize sD s=S at *
 walk_at "run"
theorem KA (h:GS s) (hx:bi s.2.1.length s.1 xs=true) (f:Bool):crG C [sD s,.lst f (xs.map .str)]=.ok .non:=by
 have e:=HU (C:=C) (f:=f) h hx
 show az (aH _ _ [vD (sD s),vD (.lst f (xs.map .str))])=_
 clear h hx
 generalize sD s=S at *
 walk_at "run"
theorem DB (h:GS s) (hx:bi s.2.1.length s.1 xs=true):((s.2.1.map D.str).length:Int) - ((xs.map D.str).length:Int)=((s.2.1.length - xs.length:Nat):Int)/\gN (.str [32]) (.int (s.1:Int))=some (.str (List.replicate s.1 32))/\gN (.lst false [.str (List.replicate s.1 32)]) (.int ((s.2.1.length - xs.length:Nat):Int))=some (.lst false (List.replicate (s.2.1.length - xs.length) (.str (List.replicate s.1 32))))/\bX (.lst false (xs.map fun x=>.str (yc s.1 x))) (.lst false (List.replicate (s.2.1.length - xs.length) (.str (List.replicate s.1 32))))=some (.lst false ((au s.2.1.length s.1 xs).map .str))/\(xs.map fun x=>D.str (yc s.1 x)).length<=sizeLine:=by
 obtain ⟨h1,_⟩:=sZ hx
 have hm:=h.m
 have hw:=h.w2
 have lb:=bL
 refine ⟨by rw [List.length_map,List.length_map];omega,JK (by omega),JE (by omega),?_,by rw [List.length_map];omega⟩
 rw [Hr (by rw [List.length_map,List.length_replicate];omega)]
 unfold au
 rw [List.map_append,List.map_map,List.map_replicate];rfl
theorem E9 (h:GS s) (hx:bi s.2.1.length s.1 xs=true) (f:Bool):frG [sD s,.lst f (xs.map .str)]=.ok (.lst false ((au s.2.1.length s.1 xs).map .str)):=by
 obtain ⟨k1,m1,m2,a1,z1⟩:=DB h hx
 have hw:=h.w2
 have x0:ixD (sD s) (.int 0)=some (.int (s.1:Int)):=rfl
 have x1:ixD (sD s) (.int 1)=some (.tup (s.2.1.map .str)):=rfl
 have i2:∀ (a b c:Option Sl) (d:D),hU [2] [a,b,vD d,c]=[none,vD d]:=fun _ _ _ _=>rfl
 have cm:=pG (ge:=lU "str" ly (rvz 0) (aa (rvz 1) nlz)) D.str (fun x=>.str (yc s.1 x)) [vD (.int (s.1:Int))] xs none (fun x _=>by
  have kd:∀ x,mf "str" (.str x)=true:=fun _=>rfl
  have j:ly (.str x) [.int (s.1:Int)]=some (.str (yc s.1 x)):=by
   simp only [ly,yc,Int.toNat_natCast]
   rw [if_pos (by omega)]
  clear k1 m1 m2 a1 z1 x0 x1 i2 h hx hw
  walk_at "run")
 have il:=Kf
 have z2:(1<=sizeLine)=True:=eq_true (by decide)
 show az (aH _ _ [vD (sD s),vD (.lst f (xs.map .str)),none,none])=_
 clear h hx hw
 generalize sD s=S at *
 generalize (au s.2.1.length s.1 xs).map D.str=GO at *
 walk_at "run"
theorem Ca {ns:List Int} {a:Nat} (h:GS s):qY [.lst fz (ns.map .int),.int (a:Int),sD s]=.ok (.lst false ((rN ns a s.1 (s.2.1.map .str)).map .str)):=by
 have w1:=h.w1
 have w2:=h.w2
 have n2:=h.m
 have hrs:tJ (s.2.1.map D.str) s.1:=fun r hr=>by
  obtain ⟨x,hx,rfl⟩:=List.mem_map.1 hr
  exact ⟨x,rfl,h.l x hx⟩
 obtain ⟨y4,y5,y6,y7,hL⟩:=qg ns fz a (wd:=s.1) w1 (by omega) (.tup (s.2.1.map .str)) (.tup [.int (s.2.2.1:Int),.int (s.2.2.2:Int)]) (s.2.1.map .str) 0 none none none none [] hrs (by simp;omega)
 rw [List.nil_append] at hL
 change cN _ _ _ [_,_,vD (sD s),_,_,_,_,_]=O.nx [_,_,vD (sD s),_,_,_,_,_] at hL
 have hpk:=bo ns (a+399) (m:=2) (by decide)
 obtain ⟨e,ee⟩:=Int.eq_ofNat_of_zero_le hpk.1
 have p1:eO [.lst fz (ns.map .int),.int ((a:Int)+399),.int 2]=.ok (.int (e:Int)):=by rw [<- ee];exact cb (n:=a+399) (by decide)
 have k2:(((lx ns a s.1 0 (s.2.1.map .str)).map D.str).length:Int) - (e:Int)=(((s.2.1.map D.str).length - e:Nat):Int):=by
  have:=h.r
  rw [List.length_map,gz,List.length_map];omega
 have d1:=AD ((lx ns a s.1 0 (s.2.1.map .str)).map D.str) ((s.2.1.map D.str).length - e)
 have eg:(rN ns a s.1 (s.2.1.map .str)).map D.str=((lx ns a s.1 0 (s.2.1.map .str)).map D.str).take ((s.2.1.map D.str).length - e):=by unfold rN;rw [ee,Int.toNat_natCast,List.map_take]
 rw [eg]
 have en:sS (.tup (s.2.1.map .str))=.ok (bF 0 (s.2.1.map .str)):=rfl
 have y1:ixD (sD s) (.int 1)=some (.tup (s.2.1.map .str)):=rfl
 have f3:∀ (a0 a1 a2 a4 a5 a6 a7:Option Sl) (ds:List D),frz 3 [a0,a1,a2,some (.own ds),a4,a5,a6,a7]=[a0,a1,a2,some (.val (.lst false ds)),a4,a5,a6,a7]:=fun _ _ _ _ _ _ _ _=>rfl
 have z0:(0:Nat)<=sizeLine:=Nat.zero_le _
 show az (aH _ _ [vL fz ns,vI a,vD (sD s),none,none,none,none,none])=_
 clear hrs hpk ee eg h w1 w2 n2
 generalize sD s=S at *
 walk_at "run"
open Classical in
noncomputable def crN:List D->R D:=fun ds=>if ∃ (s:St) (xs:List (List Nat)) (f:Bool),GS s/\bi s.2.1.length s.1 xs=true/\ds=[sD s,.lst f (xs.map .str)] then .ok .non else .no
theorem mi:∀ ds:List D,ds.length=2->crN ds=.no\/az (cZ (arG C) C (ax 2 ds))=crN ds:=fun ds _=>by
 unfold crN
 split
 ·rename_i h
  obtain ⟨s,xs,f,h,hx,rfl⟩:=h
  exact .inr (KA h hx f)
 ·exact .inl rfl
theorem HM (h:GS s) (hx:bi s.2.1.length s.1 xs=true) (f:Bool):crN [sD s,.lst f (xs.map .str)]=.ok .non:=if_pos ⟨s,xs,f,h,hx,rfl⟩
end
noncomputable def fm:Ev->O:=(aH (cA (g2 ixD (rvz 0) (ciz 0))) oNx)
noncomputable def eV (aX:List D->R D):Ev->O:=(aH (oIf (qV (oX true 0 (rvz 1)) (gB2 ltD (aK 1 aX (aa (rvz 2) nlz)) (aK 1 aX (aa (gJ 0 (rvz 1)) nlz)))) (aH (AA 0 (rvz 1) (rvz 2)) oNx) oNx) oNx)
noncomputable def bd (I_offer:MF) (bH:List D->R D):Ev->O:=(aH (eI (fN DC 0 2 I_offer (aa (rvz 1) (aa (aI mkT (aa (g2 bX (g2 ixD (rvz 2) (ciz 0)) (aK 1 bH (aa (rvz 3) nlz))) (aa (g2 bX (g2 ixD (rvz 2) (ciz 1)) (aI mkT (aa (rvz 3) nlz))) nlz))) nlz)))) oNx)
noncomputable def dz (I_offer_with_order:MF):Ev->O:=(oIf (oX false 3 (fun _=>R.ok (D.tup [D.bl false,D.bl false]))) (aH (eI (fN DC 3 3 I_offer_with_order (aa (fun _=>R.ok (D.tup [D.bl true,D.bl false])) (aa (gJ 3 (fun _=>R.ok (D.tup [D.bl false,D.bl false]))) (aa (aI mkT (aa (csz [103,111]) (aa (rvz 1) (aa (rvz 2) nlz)))) nlz))))) oNx) oNx)
noncomputable def dl (I_offer_with_order:MF):Ev->O:=(oIf (oX false 3 (fun _=>R.ok (D.tup [D.bl true,D.bl false]))) (aH (eI (fN DC 3 3 I_offer_with_order (aa (fun _=>R.ok (D.tup [D.bl true,D.bl true])) (aa (gJ 3 (fun _=>R.ok (D.tup [D.bl true,D.bl false]))) (aa (aI mkT (aa (csz [119,105,112,101]) nlz)) nlz))))) oNx) oNx)
noncomputable def dv (I_offer_with_order:MF):Ev->O:=(oIf (oX false 3 (fun _=>R.ok (D.tup [D.bl false,D.bl true]))) (aH (eI (fN DC 3 3 I_offer_with_order (aa (fun _=>R.ok (D.tup [D.bl true,D.bl true])) (aa (gJ 3 (fun _=>R.ok (D.tup [D.bl false,D.bl true]))) (aa (aI mkT (aa (csz [103,111]) (aa (rvz 1) (aa (rvz 2) nlz)))) nlz))))) oNx) oNx)
noncomputable def iM (I_offer_with_order:MF):Ev->O:=(qc 3)
noncomputable def dt (I_offer_with_order:MF):Ev->O:=(aH (dz I_offer_with_order) (aH (dl I_offer_with_order) (aH (dv I_offer_with_order) (aH (iM I_offer_with_order) oNx))))
noncomputable def bV (I_offer_with_order:MF):Addr×Unit->Ev->O:=(wH 3 (rvz 0) (ww (dt I_offer_with_order)))
noncomputable def cK (I_offer_with_order I_offer:MF):Ev->O:=(aH (fP 6 (g2 ixD (rvz 4) (ciz 1))) (aH (oIf (aI jM (g2 ixD (rvz 4) (ciz 0))) (aH (eI (fN DC 3 3 I_offer_with_order (aa (aI mkT (aa (fun _=>R.ok (D.bl true)) (aa (rvz 6) nlz))) (aa (rvz 5) (aa (aI mkT (aa (csz [115,97,121]) (aa (rvz 2) nlz))) nlz))))) oNx) oNx) (aH (oIf (gB2 eqF (gIf (aI jM (rvz 6)) (csz [32]) (rvz 1)) (rvz 2)) (aH (eI (fN DC 3 2 I_offer (aa (aI mkT (aa (fun _=>R.ok (D.bl false)) (aa (rvz 6) nlz))) (aa (rvz 5) nlz)))) oNx) oNx) oNx)))
noncomputable def cf (I_offer_with_order I_offer:MF):Ev->O:=(vQ (Al [4,5]) (aI xu (rvz 0)) (cK I_offer_with_order I_offer))
noncomputable def dR (I_offer_with_order I_offer:MF):Ev->O:=(qc 3)
noncomputable def lw (I_offer_with_order I_offer:MF):Ev->O:=(aH (cf I_offer_with_order I_offer) (aH (dR I_offer_with_order I_offer) oNx))
noncomputable def bT (I_offer_with_order I_offer:MF):Addr×Unit->Ev->O:=(BJ 3 (ww (lw I_offer_with_order I_offer)))
noncomputable def jY (cg bK:List D->R D):Ev->O:=(aH (fP 5 (aK 3 bK (aa (aK 3 cg (aa (rvz 5) (aa (rvz 1) (aa (rvz 6) nlz)))) (aa (g2 ixD (rvz 2) (rvz 6)) (aa (g2 ixD (rvz 3) (rvz 6)) nlz))))) oNx)
noncomputable def lq (cg bK:List D->R D):Ev->O:=(aH (fP 5 (rvz 0)) (aH (vQ (lX 6) (aI iu (aa (rvz 4) (aa (gOf fu (aa (rvz 2) nlz)) nlz))) (jY cg bK)) (aH (cA (rvz 5)) oNx)))
noncomputable def fR (aX:List D->R D):Ev->O:=(aH (cA (rq (cz (gm (aI bU (rvz 1)) [0] (oX false 1 (rvz 0)) (gJ 1 (rvz 0)))) aX)) oNx)
noncomputable def bR (dE bM:List D->R D):Ev->O:=(aH (fP 3 (aK 5 dE (aa (gD1 (fun _=>R.ok (D.tup [D.bl false,D.bl false])) (fun _=>R.ok (D.tup [D.int 0,D.tup []]))) (aa (rvz 0) (aa (rvz 1) (aa (rvz 2) (aa (ciz 0) nlz))))))) (aH (cA (aK 2 bM (aa (rvz 3) (aa (aI mkT (aa (fun _=>R.ok (D.tup [D.bl false,D.bl false])) (aa (fun _=>R.ok (D.tup [D.bl true,D.bl false])) (aa (fun _=>R.ok (D.tup [D.bl false,D.bl true])) (aa (fun _=>R.ok (D.tup [D.bl true,D.bl true])) nlz))))) nlz)))) oNx))
noncomputable def cD (dE bM:List D->R D):Ev->O:=(aH (fP 4 (aK 5 dE (aa (gD1 (fun _=>R.ok (D.tup [D.bl true,D.bl false])) (fun _=>R.ok (D.tup [D.int 0,D.tup []]))) (aa (rvz 0) (aa (rvz 1) (aa (rvz 2) (aa (rvz 3) nlz))))))) (aH (fP 5 (aK 2 bM (aa (rvz 4) (aa (aI mkT (aa (fun _=>R.ok (D.tup [D.bl false,D.bl false])) (aa (fun _=>R.ok (D.tup [D.bl true,D.bl false])) (aa (fun _=>R.ok (D.tup [D.bl false,D.bl true])) (aa (fun _=>R.ok (D.tup [D.bl true,D.bl true])) nlz))))) nlz)))) (aH (fP 4 (aK 5 dE (aa (gD1 (fun _=>R.ok (D.tup [D.bl false,D.bl false])) (fun _=>R.ok (D.tup [D.int 0,D.tup []]))) (aa (rvz 0) (aa (gSl (rvz 1) (fun _=>R.ok none) (jH (rvz 3))) (aa (gSl (rvz 2) (fun _=>R.ok none) (jH (rvz 3))) (aa (ciz 0) nlz))))))) (aH (fP 6 (aK 2 bM (aa (rvz 4) (aa (aI mkT (aa (fun _=>R.ok (D.tup [D.bl false,D.bl false])) (aa (fun _=>R.ok (D.tup [D.bl true,D.bl false])) nlz))) nlz)))) (aH (cA (aI mkT (aa (g2 bX (g2 ixD (rvz 5) (ciz 0)) (g2 ixD (rvz 6) (ciz 0))) (aa (g2 bX (g2 ixD (rvz 5) (ciz 1)) (g2 ixD (rvz 6) (ciz 1))) nlz)))) oNx)))))
noncomputable def bZ (aD bP aX:List D->R D):Ev->O:=(aH (fP 4 (cz (wB (aa (aK 4 bP (aa (rvz 0) (aa (rvz 1) (aa (rvz 2) (aa (rvz 3) nlz))))) (aa (aK 3 aD (aa (rvz 0) (aa (rvz 1) (aa (rvz 2) nlz)))) nlz))))) (aH (cA (rq (rvz 4) aX)) oNx))
noncomputable def jP (ci bw:List D->R D) (aY aD cC:List D->R D):Ev->O:=(aH (oIf (gB2 neF (rvz 5) (rvz 3)) (aH (Eb 4 (g2 ixD (aK 3 aD (aa (rvz 5) (aa (rvz 6) (aa (g2 ixD (rvz 2) (rvz 5)) nlz)))) (ciz 1))) oNx) oNx) oNx)
noncomputable def lW (ci bw:List D->R D) (aY aD cC:List D->R D):Ev->O:=(aH (oe (aK 2 ci (aa (rvz 0) (aa (rvz 1) nlz)))) (aH (fP 2 (aK 2 bw (aa (rvz 0) (aa (rvz 1) nlz)))) (aH (fP 3 (g2 ixD (g2 ixD (rvz 0) (ciz 2)) (ciz 0))) (aH (EZ 4 (Dw (aa (g2 ixD (aK 4 aY (aa (rvz 3) (aa (g2 ixD (g2 ixD (rvz 0) (ciz 1)) (rvz 3)) (aa (g2 ixD (rvz 2) (rvz 3)) (aa (g2 ixD (g2 ixD (rvz 0) (ciz 2)) (ciz 1)) nlz))))) (ciz 1)) nlz))) (aH (vQ (Al [5,6]) (aI sS (g2 ixD (rvz 0) (ciz 1))) (jP ci bw aY aD cC)) (Ft 4 (aH (cA (aK 1 cC (aa (rvz 4) nlz))) oNx)))))))
noncomputable def eN (kQ qU:List D->R D):Ev->O:=(aH (cA (aK 1 qU (aa (aK 2 kQ (aa (rvz 0) (aa (rvz 1) nlz))) nlz))) oNx)
noncomputable def iS (av:Addr) (ai dA:MF) (ah bw:List D->R D):Ev->O:=(aH (fP 2 (dF av 0 ai)) (aH (fP 3 (aK 2 ah (aa (rvz 2) (aa (rvz 1) nlz)))) (aH (vo av 0 3 dA (aa (csz [98,114,105,110,103]) (aa (aI mkT (aa (g2 ixD (rvz 2) (ciz 0)) (aa (gOf kK (aa (aK 2 bw (aa (rvz 2) (aa (rvz 1) nlz))) nlz)) (aa (g2 ixD (rvz 2) (ciz 2)) nlz)))) (aa (rvz 3) nlz)))) (aH (El (rvz 3)) oNx))))
noncomputable abbrev Ky:=Bool×Bool
noncomputable abbrev Pl:=Nat×List Od
noncomputable abbrev Mp:=List (Ky×Pl)
noncomputable def pD (p:Pl):D:=.tup [.int (p.1:Int),.tup (p.2.map oD)]
noncomputable def kD (k:Ky):D:=.tup [.bl k.1,.bl k.2]
noncomputable def kN (k:Ky):Nat:=code k.1 k.2
noncomputable def fsD (m:Mp):List (Nat×Fd):=m.map fun z=>(kN z.1,.val (pD z.2))
noncomputable def kvD (m:Mp):List (Nat×D):=m.map fun z=>(kN z.1,pD z.2)
noncomputable def dD (m:Mp):D:=.dct (m.map fun z=>kN z.1) (m.map fun z=>pD z.2)
noncomputable def vZ (k:Ky) (p:Pl):Mp->Mp
 | []=>[(k,p)]
 | (j,x)::r=>if j=k then (j,p)::r else (j,x)::vZ k p r
noncomputable def bE (m:Mp) (k:Ky) (p:Pl):Mp:=match m.lookup k with
 | none=>vZ k p m
 | some q=>if p.1<q.1 then vZ k p m else m
noncomputable def jd (p:Pl) (o:Od):Pl:=(p.1+bv o,p.2++[o])
theorem BL {a b:Ky} (h:kN a=kN b):a=b:=by
 obtain ⟨a1,a2⟩:=a;obtain ⟨b1,b2⟩:=b
 revert h;cases a1 <;> cases a2 <;> cases b1 <;> cases b2 <;> simp [kN,code]
theorem lg (k:Ky):qX (kD k)=some (kN k):=rfl
theorem rQ:∀ m:Mp,fvs (fsD m)=some (kvD m)
 | []=>rfl
 | z::m=>by
  show (fvs (fsD m)).map _=_
  rw [rQ m];rfl
theorem yG:∀ m:Mp,(m.map fun z=>kN z.1).zip (m.map fun z=>pD z.2)=kvD m
 | []=>rfl
 | z::m=>congrArg ((kN z.1,pD z.2)::·) (yG m)
theorem BR:∀ m:Mp,(m.map fun z=>kN z.1).zip ((m.map fun z=>pD z.2).map Fd.val)=fsD m
 | []=>rfl
 | z::m=>congrArg ((kN z.1,Fd.val (pD z.2))::·) (BR m)
theorem kR (k:Ky):∀ m:Mp,(kvD m).lookup (kN k)=(m.lookup k).map pD
 | []=>rfl
 | (j,x)::m=>by
  show List.lookup (kN k) ((kN j,pD x)::kvD m)=_
  rw [List.lookup_cons,List.lookup_cons]
  by_cases h:k=j
  ·subst h;rw [beq_self_eq_true,beq_self_eq_true];rfl
  ·rw [beq_eq_false_iff_ne.2 fun z=>h (BL z),beq_eq_false_iff_ne.2 h]
   exact kR k m
theorem Cg (k:Ky) (p:Pl):∀ m:Mp,je (kN k) (.val (pD p)) (fsD m)=fsD (vZ k p m)
 | []=>rfl
 | (j,x)::m=>by
  show (if kN j=kN k then _ else _)=fsD (if j=k then _ else _)
  by_cases h:j=k
  ·subst h;rw [if_pos rfl,if_pos rfl];rfl
  ·rw [if_neg fun z=>h (BL z),if_neg h]
   show (_,_)::je _ _ (fsD m)=(_,_)::fsD _
   rw [Cg k p m]
theorem C5 (m:Mp):(fsD m).length=m.length:=by unfold fsD;simp
noncomputable def keys (m:Mp):List Ky:=m.map (·.1)
theorem Li:∀ a b c d e:Ky,¬ [a,b,c,d,e].Nodup:=by
 intro ⟨a1,a2⟩ ⟨b1,b2⟩ ⟨c1,c2⟩ ⟨d1,d2⟩ ⟨e1,e2⟩
 revert a1 a2 b1 b2 c1 c2 d1 d2 e1 e2
 decide
theorem few:∀ {l:List Ky},l.Nodup->l.length<=4
 | [],_=>by simp
 | [_],_=>by simp
 | [_,_],_=>by simp
 | [_,_,_],_=>by simp
 | [_,_,_,_],_=>by simp
 | a::b::c::d::e::r,h=>by
  exfalso
  have h':(a::b::c::d::e::r).take 5=[a,b,c,d,e]:=rfl
  exact Li a b c d e (h' ▸ h.sublist (List.take_sublist 5 _))
theorem iY {k:Ky} {p:Pl}:∀ {m:Mp},m.lookup k=some p->(k,p)∈m
 | (j,x)::m,e=>by
  rw [List.lookup_cons] at e
  by_cases q:k=j
  ·subst q;rw [beq_self_eq_true] at e;cases e;exact List.mem_cons_self ..
  ·rw [beq_eq_false_iff_ne.2 q] at e
   exact List.mem_cons_of_mem _ (iY e)
theorem tu {k:Ky} {p:Pl}:∀ {m:Mp},keys (vZ k p m)=if k∈keys m then keys m else keys m++[k]
 | []=>rfl
 | (j,x)::m=>by
  show keys (if j=k then (j,p)::m else (j,x)::vZ k p m)=_
  by_cases q:j=k
  ·rw [if_pos q,if_pos (by rw [<- q];exact List.mem_cons_self ..)];rfl
  ·rw [if_neg q]
   show j::keys (vZ k p m)=if k∈j::keys m then j::keys m else j::keys m++[k]
   rw [tu]
   by_cases h:k∈keys m
   ·rw [if_pos h,if_pos (List.mem_cons_of_mem _ h)]
   ·rw [if_neg h,if_neg (fun z=>by rcases List.mem_cons.1 z with z|z;exact q z.symm;exact h z)];rfl
theorem pq {k:Ky} {p:Pl} {m:Mp} (h:(keys m).Nodup):(keys (vZ k p m)).Nodup:=by
 rw [tu]
 split
 ·exact h
 ·rename_i q;rw [List.nodup_append]
  exact ⟨h,by simp,fun a ha b hb=>by rw [List.mem_singleton.1 hb];intro z;exact q (z ▸ ha)⟩
theorem sY {k:Ky} {p:Pl} {z:Ky×Pl}:∀ {m:Mp},z∈vZ k p m->z∈m\/z=(k,p)
 | [],h=>.inr (List.mem_singleton.1 h)
 | (j,x)::m,h=>by
  replace h:z∈(if j=k then (j,p)::m else (j,x)::vZ k p m):=h
  split at h
  ·rename_i q;subst q
   rcases List.mem_cons.1 h with h|h
   ·exact .inr h
   ·exact .inl (List.mem_cons_of_mem _ h)
  ·rcases List.mem_cons.1 h with h|h
   ·exact .inl (h ▸ List.mem_cons_self ..)
   ·rcases sY h with h|h
    ·exact .inl (List.mem_cons_of_mem _ h)
    ·exact .inr h
theorem oE {k j:Ky} {p:Pl}:∀ {m:Mp},(vZ k p m).lookup j=if j=k then some p else m.lookup j
 | []=>by
  show List.lookup j [(k,p)]=_
  rw [List.lookup_cons]
  by_cases q:j=k
  ·rw [if_pos q,q,beq_self_eq_true]
  ·rw [if_neg q,beq_eq_false_iff_ne.2 q]
 | (i,x)::m=>by
  show List.lookup j (if i=k then (i,p)::m else (i,x)::vZ k p m)=_
  by_cases q:i=k
  ·subst q
   rw [if_pos rfl,List.lookup_cons,List.lookup_cons]
   by_cases z:j=i
   ·rw [if_pos z,z,beq_self_eq_true]
   ·rw [if_neg z,beq_eq_false_iff_ne.2 z]
  ·rw [if_neg q,List.lookup_cons,List.lookup_cons]
   by_cases z:j=i
   ·rw [z,beq_self_eq_true];dsimp only;rw [if_neg q]
   ·rw [beq_eq_false_iff_ne.2 z];exact oE
theorem gM {m:Mp} {k j:Ky} {p:Pl}:(bE m k p).lookup j=if j=k then (match m.lookup k with
  | none=>some p
  | some q=>if p.1<q.1 then some p else some q) else m.lookup j:=by
 unfold bE
 cases e:m.lookup k with
 | none=>dsimp only;exact oE
 | some q=>
  dsimp only
  by_cases h:p.1<q.1
  ·rw [if_pos h,if_pos h];exact oE
  ·rw [if_neg h,if_neg h]
   by_cases z:j=k
   ·rw [if_pos z,z,e]
   ·rw [if_neg z]
theorem fq {m:Mp} {k:Ky} {p:Pl} (h:(keys m).Nodup):(keys (bE m k p)).Nodup:=by
 unfold bE
 split
 ·exact pq h
 ·split
  ·exact pq h
  ·exact h
theorem xx {m:Mp} {k:Ky} {p:Pl} {z:Ky×Pl} (h:z∈bE m k p):z∈m\/z=(k,p):=by
 unfold bE at h
 split at h
 ·exact sY h
 ·split at h
  ·exact sY h
  ·exact .inl h
noncomputable def All (P:Ky->Pl->Prop) (m:Mp):Prop:=∀ z∈m,P z.1 z.2
theorem All.offer {P:Ky->Pl->Prop} {m:Mp} {k:Ky} {p:Pl} (h:All P m) (hp:P k p):All P (bE m k p):=fun z hz=>by
 rcases xx hz with q|q
 ·exact h z q
 ·subst q;exact hp
theorem All.at {P:Ky->Pl->Prop} {m:Mp} {k:Ky} {p:Pl} (h:All P m) (e:m.lookup k=some p):P k p:=h _ (iY e)
noncomputable abbrev dO (q:Addr) (m:Mp):Option Sl:=some (.obj true DC q (fsD m))
theorem BE {n:Nat} (h1:ge ρ=.ok d) (h2:qX d=some n) (h3:qC ρ i=.ok kv):oX neg i ge ρ=.ok (if neg then !(kv.lookup n).isSome else (kv.lookup n).isSome):=by
 unfold oX;rw [h1,R.ok_bind,h2,ck,R.ok_bind,h3,R.ok_bind]
theorem xV {v:D} {n:Nat} (h3:qC ρ i=.ok kv) (h1:ge ρ=.ok d) (h2:qX d=some n) (h4:kv.lookup n=some v):gJ i ge ρ=.ok v:=by
 unfold gJ;rw [h3,R.ok_bind,h1,R.ok_bind,h2]
 show ofO (kv.lookup n)=_
 rw [h4];rfl
theorem tK {b:Bool} {m:Mp} (h:ρ[i]?=some (some (.obj b DC p (fsD m)))):qC ρ i=.ok (kvD m):=by
 unfold qC;rw [h];dsimp only;rw [if_pos rfl,rQ];rfl
theorem Bm {m:Mp} (h:ρ[i]?=some (vD (dD m))):qC ρ i=.ok (kvD m):=by
 unfold qC;rw [h];unfold dD;dsimp only;rw [yG]
theorem Da {gk ga:Ev->R D} {m:Mp} {k:Ky} {p:Pl} (h:ρ[i]?=some (dO q m)) (hd:ga ρ=.ok (pD p)) (hk:gk ρ=.ok (kD k)) (hl:m.length<900) :
  AA i gk ga ρ=.nx (ρ.set i (dO q (vZ k p m))):=by
 unfold AA
 rw [kH h,R.ok_out,hd,lj,R.ok_out,hk,lj,R.ok_out,lg]
 dsimp only
 rw [if_pos (by rw [C5];exact hl),Cg]
theorem xX {b:Bool} {m:Mp} {k:Ky} (h:ρ[i]?=some (some (.obj b DC q (fsD m)))) (hk:ge ρ=.ok (kD k)):oX neg i ge ρ=.ok (if neg then !(m.lookup k).isSome else (m.lookup k).isSome):=by
 rw [BE hk (lg k) (tK h),kR,Option.isSome_map]
theorem uq {b:Bool} {m:Mp} {k:Ky} {p:Pl} (h:ρ[i]?=some (some (.obj b DC q (fsD m)))) (hk:ge ρ=.ok (kD k)) (e:m.lookup k=some p):gJ i ge ρ=.ok (pD p):=
 xV (tK h) hk (lg k) (by rw [kR,e];rfl)
noncomputable def pcF:List D->R D:=fun ds=>az (fm (ax 1 ds))
theorem Bd (p:Pl):pcF [pD p]=.ok (.int (p.1:Int)):=rfl
theorem uD (q:Addr) (m:Mp) (k:Ky) (p:Pl) (hl:m.length<900) :
  eV pcF [dO q m,vD (kD k),vD (pD p)]=.nx [dO q (bE m k p),vD (kD k),vD (pD p)]:=by
 unfold eV
 have h1:=xX (neg:=true) (i:=0) (ge:=fun ρ=>rdV ρ 1) (ρ:=[dO q m,vD (kD k),vD (pD p)]) (k:=k) rfl rfl
 have h2:=Da (i:=0) (gk:=fun ρ=>rdV ρ 1) (ga:=fun ρ=>rdV ρ 2) (ρ:=[dO q m,vD (kD k),vD (pD p)]) (k:=k) (p:=p) rfl rfl rfl hl
 have h3:=Bd p
 unfold bE
 cases e:m.lookup k with
 | none=>
  rw [e] at h1
  dsimp only [Option.isSome_none,Bool.not_false,if_true] at h1
  clear e hl
  walk_at "run"
 | some p0=>
  rw [e] at h1
  have h4:=uq (i:=0) (ge:=fun ρ=>rdV ρ 1) (ρ:=[dO q m,vD (kD k),vD (pD p)]) rfl rfl e
  have h5:=Bd p0
  dsimp only [Option.isSome_some,Bool.not_true,if_true] at h1
  have h6:ltD (.int (p.1:Int)) (.int (p0.1:Int))=some (.bl (decide (p.1<p0.1))):=by
   show some (D.bl (decide ((p.1:Int)<(p0.1:Int))))=_
   rw [show decide ((p.1:Int)<(p0.1:Int))=decide (p.1<p0.1) from decide_eq_decide.2 Int.ofNat_lt]
  clear e hl
  by_cases h:p.1<p0.1
  ·rw [decide_eq_true h] at h6
   dsimp only
   rw [if_pos h]
   clear h
   walk_at "run"
  ·rw [decide_eq_false h] at h6
   dsimp only
   rw [if_neg h]
   clear h
   walk_at "run"
noncomputable def Ku (ρ:Ev):RM:=match (ρ[0]?:Option (Option Sl)) with
 | some (some (.obj _ _ _ fs))=>.ok .non fs
 | _=>.no
noncomputable def HC (o:O):RM:=match o with
 | .nx ρ=>Ku ρ
 | _=>.no
open Classical in
noncomputable def cI:MF:=fun fs ds=>if ∃ m k p,fs=fsD m/\ds=[kD k,pD p]/\m.length<900 then HC (eV pcF (cV true DC 0 fs 3 ds)) else .no
theorem nT {m:Mp} (k:Ky) (p:Pl) (hl:m.length<900):cI (fsD m) [kD k,pD p]=.ok .non (fsD (bE m k p)):=by
 unfold cI
 rw [if_pos ⟨m,k,p,rfl,rfl,hl⟩]
 show HC (eV pcF [some (.obj true DC 0 (fsD m)),vD (kD k),vD (pD p)])=_
 rw [uD 0 m k p hl];rfl
theorem AJ:cW DC (eV pcF) 3 cI:=by
 intro q fs ds
 by_cases h:∃ m k p,fs=fsD m/\ds=[kD k,pD p]/\m.length<900
 ·obtain ⟨m,k,p,rfl,rfl,hl⟩:=h
  rw [nT k p hl]
  exact ⟨_,rfl,.inr ⟨uD q m k p hl,rfl⟩⟩
 ·have e:cI fs ds=.no:=by unfold cI;exact if_neg h
  rw [e];trivial
theorem AW {n:Nat} {fs:List (Nat×Fd)} (ho:ρ[i]?=some (some (.obj true C p fs))) (ha:gl ρ=.ok ds) (hl:ds.length=n) (hF:F fs ds=.ok d fs'):eI (fN C i n F gl) ρ=.nx (ρ.set i (some (.obj true C p fs'))):=by
 unfold eI;rw [jU ho ha hl hF];rfl
theorem Jq {p:Pl} {o:Od} (h:p.2.length<900):bX (.tup (p.2.map oD)) (.tup [oD o])=some (.tup ((p.2++[o]).map oD)):=by
 have h1:1000<=sizeLine:=by decide
 show (if _ then _ else _)=_
 rw [if_pos (by simp;omega)]
 simp
theorem BN (q:Addr) (m:Mp) (k:Ky) (p:Pl) (o:Od) (hl:m.length<900) (hp:p.2.length<900) :
  bd cI ocG [dO q m,vD (kD k),vD (pD p),vD (oD o)]=.nx [dO q (bE m k (jd p o)),vD (kD k),vD (pD p),vD (oD o)]:=by
 unfold bd
 show (eI (fN DC 0 2 cI _) _).seq _=_
 rw [AW (n:=2) (ds:=[kD k,pD (jd p o)]) (d:=.non) (fs':=fsD (bE m k (jd p o))) rfl ?_ rfl (nT k (jd p o) hl)]
 ·rfl
 ·have h1:=Kd o
  have h2:=Jq (p:=p) (o:=o) hp
  have h3:ixD (pD p) (.int 0)=some (.int (p.1:Int)):=rfl
  have h4:ixD (pD p) (.int 1)=some (.tup (p.2.map oD)):=rfl
  have h5:bX (.int (p.1:Int)) (.int (bv o:Int))=some (.int ((p.1+bv o:Nat):Int)):=rfl
  have h6:mkT [oD o]=.ok (.tup [oD o]):=rfl
  have h7:mkT [.int ((p.1+bv o:Nat):Int),.tup ((p.2++[o]).map oD)]=.ok (pD (jd p o)):=rfl
  clear hl hp
  walk_at "run"
open Classical in
noncomputable def ji:MF:=fun fs ds=>if ∃ m k p o,fs=fsD m/\ds=[kD k,pD p,oD o]/\m.length<900/\p.2.length<900 then HC (bd cI ocG (cV true DC 0 fs 4 ds)) else .no
theorem xM {m:Mp} (k:Ky) {p:Pl} (o:Od) (hl:m.length<900) (hp:p.2.length<900):ji (fsD m) [kD k,pD p,oD o]=.ok .non (fsD (bE m k (jd p o))):=by
 unfold ji
 rw [if_pos ⟨m,k,p,o,rfl,rfl,hl,hp⟩]
 show HC (bd cI ocG [some (.obj true DC 0 (fsD m)),vD (kD k),vD (pD p),vD (oD o)])=_
 rw [BN 0 m k p o hl hp];rfl
theorem iw:cW DC (bd cI ocG) 4 ji:=by
 intro q fs ds
 by_cases h:∃ m k p o,fs=fsD m/\ds=[kD k,pD p,oD o]/\m.length<900/\p.2.length<900
 ·obtain ⟨m,k,p,o,rfl,rfl,hl,hp⟩:=h
  rw [xM k o hl hp]
  exact ⟨_,rfl,.inr ⟨BN q m k p o hl hp,rfl⟩⟩
 ·have e:ji fs ds=.no:=by unfold ji;exact if_neg h
  rw [e];trivial
noncomputable def move (m:Mp) (a b:Ky) (o:Od):Mp:=match m.lookup a with
 | some p=>bE m b (jd p o)
 | none=>m
noncomputable def dC (m:Mp) (n c:Nat):Mp:=move (move (move m (false,false) (true,false) (.go n c)) (true,false) (true,true) .wipe) (false,true) (true,true) (.go n c)
noncomputable def Len (J:Nat) (m:Mp):Prop:=All (fun _ p=>p.2.length<=J) m
theorem Len.mono {K:Nat} {m:Mp} (h:Len J m) (l:J<=K):Len K m:=fun z hz=>Nat.le_trans (h z hz) l
theorem Len.move {J:Nat} {m:Mp} (h:Len J m) (a b:Ky) (o:Od):Len (J+1) (move m a b o):=by
 unfold Q.move
 cases e:m.lookup a with
 | none=>exact h.mono (Nat.le_succ _)
 | some p=>exact All.offer (h.mono (Nat.le_succ _)) (by have:=All.at h e;simp only [jd,List.length_append,List.length_singleton];omega)
theorem mF {m:Mp} (h:(keys m).Nodup) (a b:Ky) (o:Od):(keys (move m a b o)).Nodup:=by
 unfold move
 split
 ·exact fq h
 ·exact h
theorem Em {m:Mp} (h:(keys m).Nodup):m.length<=4:=by have:=few h;rwa [keys,List.length_map] at this
theorem td {x0 x1 x2:Option Sl} {m:Mp} (a b:Ky) {o:Od} {go:Ev->R D} (hgo:go [x0,x1,x2,dO q m]=.ok (oD o)) (hn:(keys m).Nodup) (hp:Len J m) (hJ:J<900) :
  oIf (oX false 3 (fun _=>R.ok (kD a))) (aH (eI (fN DC 3 3 ji (aa (fun _=>R.ok (kD b)) (aa (gJ 3 (fun _=>R.ok (kD a))) (aa go nlz))))) oNx) oNx [x0,x1,x2,dO q m] =
   .nx [x0,x1,x2,dO q (move m a b o)]:=by
 have h1:=xX (neg:=false) (i:=3) (ge:=fun _=>R.ok (kD a)) (ρ:=[x0,x1,x2,dO q m]) (k:=a) rfl rfl
 have hl:=Em hn
 unfold move
 cases e:m.lookup a with
 | none=>
  rw [e] at h1
  dsimp only [Option.isSome_none,Bool.false_eq_true,if_false] at h1 ⊢
  clear e hl hp
  walk_at "run"
 | some p=>
  rw [e] at h1
  dsimp only [Option.isSome_some,Bool.false_eq_true,if_false] at h1 ⊢
  have h2:=uq (i:=3) (ge:=fun _=>R.ok (kD a)) (ρ:=[x0,x1,x2,dO q m]) rfl rfl e
  have h4:eI (fN DC 3 3 ji (aa (fun _=>R.ok (kD b)) (aa (gJ 3 (fun _=>R.ok (kD a))) (aa go nlz)))) [x0,x1,x2,dO q m]=.nx [x0,x1,x2,dO q (bE m b (jd p o))]:=by
   refine AW (ds:=[kD b,pD p,oD o]) (d:=.non) rfl ?_ rfl (xM b o (by omega) (by have:=All.at hp e;omega))
   clear hl hp e h1
   walk_at "run"
  clear e hl hp h2 hgo
  walk_at "run"
theorem xA {m:Mp} (h:ρ[i]?=some (dO q m)):qc i ρ=.rt (dD m):=by
 unfold qc;rw [h];dsimp only;rw [if_pos rfl,rQ]
 show O.rt (.dct ((kvD m).map (·.1)) ((kvD m).map (·.2)))=_
 unfold kvD dD;simp only [List.map_map];rfl
theorem Hb (q:Addr×Unit) {m:Mp} (n c:Nat) (hm:m≠[]) (hn:(keys m).Nodup) (hp:Len J m) (hJ:J<890):bV ji q (ax 4 [dD m,.int (n:Int),.int (c:Int)])=.rt (dD (dC m n c)):=by
 have h0:bV ji q (ax 4 [dD m,.int (n:Int),.int (c:Int)])=dt ji [vD (dD m),vI n,vI c,some (.obj true DC q.1 (fsD m))]:=by
  cases m with
  | nil=>exact absurd rfl hm
  | cons z r=>
   show dt ji [_,_,_,some (.obj true DC q.1 ((((z::r:Mp).map fun z=>kN z.1)).zip ((((z::r:Mp).map fun z=>pD z.2)).map Fd.val)))]=_
   rw [BR]
 rw [h0]
 have h1:=td (x0:=vD (dD m)) (x1:=vI n) (x2:=vI c) (q:=q.1) (false,false) (true,false) (o:=.go n c) (go:=aI mkT (aa (csz [103,111]) (aa (rvz 1) (aa (rvz 2) nlz)))) rfl hn hp (by omega)
 have n1:=mF hn (false,false) (true,false) (.go n c)
 have l1:=hp.move (false,false) (true,false) (.go n c)
 have h2:=td (x0:=vD (dD m)) (x1:=vI n) (x2:=vI c) (q:=q.1) (true,false) (true,true) (o:=.wipe) (go:=aI mkT (aa (csz [119,105,112,101]) nlz)) rfl n1 l1 (by omega)
 have n2:=mF n1 (true,false) (true,true) .wipe
 have l2:=l1.move (true,false) (true,true) .wipe
 have h3:=td (x0:=vD (dD m)) (x1:=vI n) (x2:=vI c) (q:=q.1) (false,true) (true,true) (o:=.go n c) (go:=aI mkT (aa (csz [103,111]) (aa (rvz 1) (aa (rvz 2) nlz)))) rfl n2 l2 (by omega)
 unfold dt
 show (dz ji _).seq _=_
 rw [show dz ji _=_ from h1]
 show (dl ji _).seq _=_
 rw [show dl ji _=_ from h2]
 show (dv ji _).seq _=_
 rw [show dv ji _=_ from h3]
 show (qc 3 _).seq _=_
 rw [xA (q:=q.1) (m:=dC m n c) rfl];rfl
open Classical in
noncomputable def wmF:List D->R D:=fun ds=>if ∃ m,∃ n c:Nat,ds=[dD m,.int (n:Int),.int (c:Int)]/\m≠[]/\(keys m).Nodup/\Len 880 m then az (bV ji (0,()) (ax 4 ds)) else .no
theorem Gr {m:Mp} (n c:Nat) (hm:m≠[]) (hn:(keys m).Nodup) (hp:Len J m) (hJ:J<=880):wmF [dD m,.int (n:Int),.int (c:Int)]=.ok (dD (dC m n c)):=by
 unfold wmF
 rw [if_pos ⟨m,n,c,rfl,hm,hn,hp.mono hJ⟩,Hb _ n c hm hn hp (by omega)];rfl
theorem ng:∀ ds:List D,ds.length=3->wmF ds=.no\/∀ q,az (bV ji q (ax 4 ds))=wmF ds:=by
 intro ds _
 by_cases h:∃ m,∃ n c:Nat,ds=[dD m,.int (n:Int),.int (c:Int)]/\m≠[]/\(keys m).Nodup/\Len 880 m
 ·obtain ⟨m,n,c,rfl,hm,hn,hp⟩:=h
  refine .inr fun q=>?_
  rw [Gr n c hm hn hp (Nat.le_refl _),Hb q n c hm hn hp (by omega)];rfl
 ·exact .inl (by unfold wmF;exact if_neg h)
noncomputable def und (old:Nat) (b:Bool):Nat:=match b with
 | true=>32
 | false=>old
theorem iR {g h:Ev->O} {ρ1:Ev} (e:g ρ=.nx ρ1):aH g h ρ=h ρ1:=by show (g ρ).seq h=_;rw [e];rfl
noncomputable def sovK (old new:Nat) (acc:Mp) (z:Ky×Pl):Mp:=
 let a1:=if z.1.1=true then bE acc (true,z.1.2) (jd z.2 (.say [new])) else acc
 if und old z.1.2=new then bE a1 (false,z.1.2) z.2 else a1
noncomputable def xQ (old new:Nat) (m:Mp):Mp:=m.foldl (sovK old new) []
theorem mI {old new:Nat} {acc:Mp} {z:Ky×Pl} (h:(keys acc).Nodup):(keys (sovK old new acc z)).Nodup:=by
 unfold sovK
 have h1:(keys (if z.1.1=true then bE acc (true,z.1.2) (jd z.2 (.say [new])) else acc)).Nodup:=by
  split
  ·exact fq h
  ·exact h
 dsimp only
 split
 ·exact fq h1
 ·exact h1
theorem jV {α:Type} {P:Mp->Prop} {f:Mp->α->Mp}:∀ {l:List α} {a:Mp},P a->(∀ a x,x∈l->P a->P (f a x))->P (l.foldl f a)
 | [],_,h,_=>h
 | x::l,a,h,H=>jV (l:=l) (H a x (List.mem_cons_self ..) h) fun a y hy=>H a y (List.mem_cons_of_mem _ hy)
theorem vt {old new:Nat} {m:Mp}:(keys (xQ old new m)).Nodup:=jV (P:=fun m=>(keys m).Nodup) List.Pairwise.nil fun _ _ _ h=>mI h
theorem mW {old new:Nat} {m:Mp} {P R:Ky->Pl->Prop} (h:All P m) (h1:∀ k p,P k p->k.1=true->R (true,k.2) (jd p (.say [new]))) (h2:∀ k p,P k p->und old k.2=new->R (false,k.2) p):All R (xQ old new m):=by
 refine jV (P:=All R) (fun z hz=>nomatch hz) fun a x hx ha=>?_
 unfold sovK
 dsimp only
 have g1:All R (if x.1.1=true then bE a (true,x.1.2) (jd x.2 (.say [new])) else a):=by
  split
  ·rename_i q;exact All.offer ha (h1 _ _ (h x hx) q)
  ·exact ha
 split
 ·rename_i q;exact All.offer g1 (h2 _ _ (h x hx) q)
 ·exact g1
theorem wV {x0 x6:Option Sl} {acc:Mp} (old new:Nat) (k:Ky) (p:Pl) (hn:(keys acc).Nodup) (hp:p.2.length<900) :
  cK ji cI [x0,vS [old],vS [new],dO q acc,vD (kD k),vD (pD p),x6] =
   .nx [x0,vS [old],vS [new],dO q (sovK old new acc (k,p)),vD (kD k),vD (pD p),vD (.bl k.2)]:=by
 obtain ⟨k1,k2⟩:=k
 unfold cK sovK
 have i1:ixD (kD (k1,k2)) (.int 1)=some (.bl k2):=rfl
 have i0:ixD (kD (k1,k2)) (.int 0)=some (.bl k1):=rfl
 have fin:∀ a1:Mp,(keys a1).Nodup->oIf (gB2 eqF (gIf (aI jM (rvz 6)) (csz [32]) (rvz 1)) (rvz 2)) (aH (eI (fN DC 3 2 cI (aa (aI mkT (aa (fun _=>R.ok (D.bl false)) (aa (rvz 6) nlz))) (aa (rvz 5) nlz)))) oNx) oNx
   [x0,vS [old],vS [new],dO q a1,vD (kD (k1,k2)),vD (pD p),vD (.bl k2)] =
   .nx [x0,vS [old],vS [new],dO q (if und old k2=new then bE a1 (false,k2) p else a1),vD (kD (k1,k2)),vD (pD p),vD (.bl k2)]:=by
  intro a1 n1
  have hl:=Em n1
  have h4:=AW (C:=DC) (i:=3) (n:=2) (F:=cI) (gl:=aa (aI mkT (aa (fun _=>R.ok (D.bl false)) (aa (rvz 6) nlz))) (aa (rvz 5) nlz)) (ρ:=[x0,vS [old],vS [new],dO q a1,vD (kD (k1,k2)),vD (pD p),vD (.bl k2)]) (ds:=[kD (false,k2),pD p]) (d:=.non) rfl rfl rfl (nT (false,k2) p (by omega))
  have h6:∀ y:Nat,eqF (.str [y]) (.str [new])=some (.bl (decide (y=new))):=fun y=>by
   rw [Kq];congr 2
   by_cases z:y=new
   ·rw [z,beq_self_eq_true,decide_eq_true rfl]
   ·rw [decide_eq_false z,beq_eq_false_iff_ne];intro y;exact z (by injection y)
  clear i1 i0 hl hp hn
  have h7:=h6 (und old k2)
  clear h6
  by_cases z:und old k2=new
  ·rw [decide_eq_true z] at h7
   rw [if_pos z]
   clear z
   cases k2 <;> dsimp only [und] at h7 <;> walk_at "run"
  ·rw [decide_eq_false z] at h7
   rw [if_neg z]
   clear z
   cases k2 <;> dsimp only [und] at h7 <;> walk_at "run"
 have hl:=Em hn
 cases k1 with
 | true=>
  have f1:=fin (bE acc (true,k2) (jd p (.say [new]))) (fq hn)
  have h4:=AW (C:=DC) (i:=3) (n:=3) (F:=ji) (gl:=aa (aI mkT (aa (fun _=>R.ok (D.bl true)) (aa (rvz 6) nlz))) (aa (rvz 5) (aa (aI mkT (aa (csz [115,97,121]) (aa (rvz 2) nlz))) nlz))) (ρ:=[x0,vS [old],vS [new],dO q acc,vD (kD (true,k2)),vD (pD p),vD (.bl k2)]) (ds:=[kD (true,k2),pD p,oD (.say [new])]) (d:=.non) rfl rfl rfl (xM (true,k2) (.say [new]) (by omega) hp)
  refine (iR (ρ1:=[x0,vS [old],vS [new],dO q acc,vD (kD (true,k2)),vD (pD p),vD (.bl k2)]) ?_).trans ?_
  ·rfl
  refine (iR (ρ1:=[x0,vS [old],vS [new],dO q (bE acc (true,k2) (jd p (.say [new]))),vD (kD (true,k2)),vD (pD p),vD (.bl k2)]) ?_).trans ?_
  ·clear fin f1 hl hn hp
   walk_at "run"
  exact iR f1
 | false=>
  have f1:=fin acc hn
  refine (iR (ρ1:=[x0,vS [old],vS [new],dO q acc,vD (kD (false,k2)),vD (pD p),vD (.bl k2)]) ?_).trans ?_
  ·rfl
  refine (iR (ρ1:=[x0,vS [old],vS [new],dO q acc,vD (kD (false,k2)),vD (pD p),vD (.bl k2)]) ?_).trans ?_
  ·rfl
  exact iR f1
theorem D2 (k:Ky):BV (kN k)=kD k:=pj k.1 k.2
theorem AU (m:Mp):xu (dD m)=.ok (m.map fun z=>.tup [kD z.1,pD z.2]):=by
 show R.ok ((((m.map fun z=>kN z.1)).zip ((m.map fun z=>pD z.2))).map fun z=>D.tup [BV z.1,z.2])=_
 rw [yG];unfold kvD;rw [List.map_map]
 congr 1
 refine List.map_congr_left fun z _=>?_
 show D.tup [BV (kN z.1),_]=_
 rw [D2]
theorem qx {x0:Option Sl} {q:Addr} (old new:Nat):∀ (m acc:Mp) (x4 x5 x6:Option Sl),(keys acc).Nodup->Len 890 m->∃ y4 y5 y6,cN (Al [4,5]) (cK ji cI) (m.map fun z=>.tup [kD z.1,pD z.2]) [x0,vS [old],vS [new],dO q acc,x4,x5,x6] =
  .nx [x0,vS [old],vS [new],dO q (m.foldl (sovK old new) acc),y4,y5,y6]
 | [],acc,x4,x5,x6,_,_=>⟨x4,x5,x6,rfl⟩
 | (k,p)::m,acc,x4,x5,x6,hn,hp=>by
  obtain ⟨y4,y5,y6,ih⟩:=qx old new m (sovK old new acc (k,p)) (vD (kD k)) (vD (pD p)) (vD (.bl k.2)) (mI hn) fun z hz=>hp z (List.mem_cons_of_mem _ hz)
  refine ⟨y4,y5,y6,?_⟩
  rw [List.map_cons,iz (ρ1:=[x0,vS [old],vS [new],dO q acc,vD (kD k),vD (pD p),x6]) rfl (wV old new k p hn (by have:=hp (k,p) (List.mem_cons_self ..);dsimp only at this;omega))]
  exact ih
theorem GE (q:Addr×Unit) {m:Mp} (old new:Nat) (hp:Len 890 m):bT ji cI q (ax 7 [dD m,.str [old],.str [new]])=.rt (dD (xQ old new m)):=by
 obtain ⟨y4,y5,y6,h⟩:=qx (x0:=vD (dD m)) (q:=q.1) old new m [] none none none List.Pairwise.nil hp
 show (cf ji cI [vD (dD m),vS [old],vS [new],some (.obj true DC q.1 (fsD [])),none,none,none]).seq (aH (dR ji cI) oNx)=_
 have e:cf ji cI [vD (dD m),vS [old],vS [new],some (.obj true DC q.1 (fsD [])),none,none,none]=.nx [vD (dD m),vS [old],vS [new],some (.obj true DC q.1 (fsD (xQ old new m))),y4,y5,y6]:=by
  have h2:=AU m
  unfold cf
  walk_at "run"
  rfl
 rw [e]
 show (qc 3 _).seq _=_
 rw [xA (q:=q.1) (m:=xQ old new m) rfl];rfl
open Classical in
noncomputable def soF:List D->R D:=fun ds=>if ∃ m,∃ old new:Nat,ds=[dD m,.str [old],.str [new]]/\Len 890 m then az (bT ji cI (0,()) (ax 7 ds)) else .no
theorem EO {m:Mp} (old new:Nat) (hp:Len 890 m):soF [dD m,.str [old],.str [new]]=.ok (dD (xQ old new m)):=by
 unfold soF
 rw [if_pos ⟨m,old,new,rfl,hp⟩,GE _ old new hp];rfl
theorem lC:∀ ds:List D,ds.length=3->soF ds=.no\/∀ q,az (bT ji cI q (ax 7 ds))=soF ds:=by
 intro ds _
 by_cases h:∃ m,∃ old new:Nat,ds=[dD m,.str [old],.str [new]]/\Len 890 m
 ·obtain ⟨m,old,new,rfl,hp⟩:=h
  refine .inr fun q=>?_
  rw [EO old new hp,GE q old new hp];rfl
 ·exact .inl (by unfold soF;exact if_neg h)
noncomputable def rR (n:Nat) (old new:List Nat) (m:Mp) (c:Nat):Mp:=xQ (old.getD c 0) (new.getD c 0) (dC m n c)
noncomputable def dZ (n:Nat) (old new:List Nat) (b:Nat) (m:Mp):Mp:=(List.range' b (old.length - b)).foldl (rR n old new) m
theorem gO {m:Mp} {k j:Ky} {p:Pl} (h:m.lookup j≠none):(bE m k p).lookup j≠none:=by
 rw [gM]
 split
 ·split
  ·exact fun z=>nomatch z
  ·split <;> exact fun z=>nomatch z
 ·exact h
theorem ko {m:Mp} {k:Ky} {p:Pl}:(bE m k p).lookup k≠none:=by
 rw [gM,if_pos rfl]
 split
 ·exact fun z=>nomatch z
 ·split <;> exact fun z=>nomatch z
theorem lR {m:Mp} {a b j:Ky} {o:Od} (h:m.lookup j≠none):(move m a b o).lookup j≠none:=by
 unfold move
 split
 ·exact gO h
 ·exact h
theorem AM {m:Mp} {a b:Ky} {o:Od} (h:m.lookup a≠none):(move m a b o).lookup b≠none:=by
 unfold move
 split
 ·exact ko
 ·rename_i e;exact absurd e h
theorem yQ {old new:Nat} {acc:Mp} {z:Ky×Pl} {j:Ky} (h:acc.lookup j≠none):(sovK old new acc z).lookup j≠none:=by
 unfold sovK
 have h1:(if z.1.1=true then bE acc (true,z.1.2) (jd z.2 (.say [new])) else acc).lookup j≠none:=by
  split
  ·exact gO h
  ·exact h
 dsimp only
 split
 ·exact gO h1
 ·exact h1
theorem AI {old new:Nat} {m:Mp} (h:m.lookup (true,false)≠none):(xQ old new m).lookup (true,false)≠none:=by
 cases e:m.lookup (true,false) with
 | none=>exact absurd e h
 | some p=>
  have hm:=iY e
  have go:∀ (l:Mp) (acc:Mp),((true,false),p)∈l\/acc.lookup (true,false)≠none->(l.foldl (sovK old new) acc).lookup (true,false)≠none:=by
   intro l
   induction l with
   | nil=>intro acc h;rcases h with h|h;exact nomatch h;exact h
   | cons z l ih=>
    intro acc h
    refine ih _ ?_
    rcases h with h|h
    ·rcases List.mem_cons.1 h with h|h
     ·subst h
      refine .inr ?_
      unfold sovK
      dsimp only
      rw [if_pos rfl]
      split
      ·exact gO ko
      ·exact ko
     ·exact .inl h
    ·exact .inr (yQ h)
  exact go m [] (.inl hm)
structure Gd (J:Nat) (m:Mp):Prop where
 nd:(keys m).Nodup
 ne:m.lookup (true,false)≠none\/m.lookup (false,false)≠none
 len:Len J m
theorem Gd.nn {m:Mp} (g:Gd J m):m≠[]:=fun e=>by
 subst e;rcases g.ne with h|h <;> exact h rfl
theorem vi {m:Mp} (g:Gd J m) (n c:Nat):(dC m n c).lookup (true,false)≠none:=by
 unfold dC
 refine lR (lR ?_)
 rcases g.ne with h|h
 ·exact lR h
 ·exact AM h
theorem Len.moves {m:Mp} (h:Len J m) (n c:Nat):Len (J+3) (dC m n c):=((h.move _ _ _).move _ _ _).move _ _ _
theorem Len.sov {m:Mp} (h:Len J m) (old new:Nat):Len (J+1) (xQ old new m):=
 mW (P:=fun _ p=>p.2.length<=J) h (fun k p hp _=>by simp only [jd,List.length_append,List.length_singleton];omega) fun k p hp _=>Nat.le_succ_of_le hp
theorem Gd.col {m:Mp} (g:Gd J m) (n c:Nat) (old new:List Nat):Gd (J+4) (rR n old new m c):=
 ⟨vt,.inl (AI (vi g n c)),(g.len.moves n c).sov _ _⟩
theorem wc {a b:Nat} (h:a+b<=1000):iu [.int (a:Int),.int ((a+b:Nat):Int)]=.ok ((List.range' a b).map fun (i:Nat)=>D.int (i:Int)):=by
 have e:iu [.int (a:Int),.int ((a+b:Nat):Int)]=if -(2 ^ 62)<=(a:Int)/\(a:Int)<2 ^ 62/\-(2 ^ 62)<=((a+b:Nat):Int)/\((a+b:Nat):Int)<2 ^ 62 then .ok ((List.range (((a+b:Nat):Int) - (a:Int)).toNat).map fun k=>D.int ((a:Int)+(k:Nat))) else .no:=by simp only [iu]
 rw [e,if_pos (by refine ⟨?_,?_,?_,?_⟩ <;> omega),show (((a+b:Nat):Int) - (a:Int)).toNat=b by omega,List.range'_eq_map_range,List.map_map]
 refine congrArg R.ok (List.map_congr_left fun k _=>?_)
 simp
theorem ja {x:List Nat} {c:Nat} (h:c<x.length):x[c]?=some (x.getD c 0):=by
 rw [List.getD_eq_getElem?_getD,List.getElem?_eq_getElem h];rfl
theorem Df {x0 x4:Option Sl} {m:Mp} (g:Gd J m) (n c:Nat) {new:List Nat} (h1:c<old.length) (h2:c<new.length) (hJ:J<=880) :
  jY wmF soF [x0,vI n,vS old,vS new,x4,vD (dD m),vI c]=.nx [x0,vI n,vS old,vS new,x4,vD (dD (rR n old new m c)),vI c]:=by
 have e1:=Gr n c g.nn g.nd g.len hJ
 have e2:=EO (m:=dC m n c) (old.getD c 0) (new.getD c 0) ((g.len.moves n c).mono (by omega))
 have e3:=Ke (ja h1)
 have e4:=Ke (ja h2)
 unfold jY rR
 clear h1 h2 hJ g
 walk_at "run"
theorem xG {x0 x4:Option Sl} (n:Nat) {old new:List Nat} (hl:new.length=old.length):∀ (k b J:Nat) (m:Mp) (x6:Option Sl),b+k<=old.length->Gd J m->J+4 * k<=880->∃ y6,cN (lX 6) (jY wmF soF) ((List.range' b k).map fun (i:Nat)=>D.int (i:Int)) [x0,vI n,vS old,vS new,x4,vD (dD m),x6] =
  .nx [x0,vI n,vS old,vS new,x4,vD (dD ((List.range' b k).foldl (rR n old new) m)),y6]/\Gd (J+4 * k) ((List.range' b k).foldl (rR n old new) m)
 | 0,b,J,m,x6,_,g,_=>⟨x6,rfl,g⟩
 | k+1,b,J,m,x6,hb,g,hJ=>by
  obtain ⟨y6,ih,gg⟩:=xG (x0:=x0) (x4:=x4) n hl k (b+1) (J+4) (rR n old new m b) (vI b) (by omega) (g.col n b old new) (by omega)
  refine ⟨y6,?_,?_⟩
  ·rw [List.range'_succ,List.map_cons,iz (ρ1:=[x0,vI n,vS old,vS new,x4,vD (dD m),vI b]) rfl (Df g n b (by omega) (by omega) (by omega))]
   exact ih
  ·rw [List.range'_succ,List.foldl_cons,show J+4 * (k+1)=J+4+4 * k by omega];exact gg
noncomputable def swF:List D->R D:=fun ds=>az (lq wmF soF (ax 7 ds))
theorem oA {m:Mp} (g:Gd J m) (n:Nat) {new:List Nat} {b:Nat} (hl:new.length=old.length) (hb:b<=old.length) (hJ:J+4 * old.length<=880) :
  swF [dD m,.int (n:Int),.str old,.str new,.int (b:Int)]=.ok (dD (dZ n old new b m))/\Gd (J+4 * (old.length - b)) (dZ n old new b m):=by
 obtain ⟨y6,h,gg⟩:=xG (x0:=vD (dD m)) (x4:=vI b) n hl (old.length - b) b J m none (by omega) g (by omega)
 refine ⟨?_,gg⟩
 have hr:=wc (a:=b) (b:=old.length - b) (by omega)
 rw [show b+(old.length - b)=old.length by omega] at hr
 show az (aH _ _ [vD (dD m),vI n,vS old,vS new,vI b,none,none])=_
 clear gg hJ hb hl g
 walk_at "run"
 rfl
noncomputable def vJ:Pl->List Pl->Pl
 | b,[]=>b
 | b,x::xs=>if x.1<b.1 then vJ x xs else vJ b xs
noncomputable def EC:List Pl->Pl
 | []=>(0,[])
 | b::xs=>vJ b xs
noncomputable def fb (m:Mp) (ks:List Ky):List Pl:=ks.filterMap fun k=>m.lookup k
noncomputable def gE (m:Mp) (ks:List Ky):Pl:=EC (fb m ks)
theorem sC:∀ (xs:List Pl) (b:Pl),pM (fun d=>pcF [d]) (pD b) (b.1:Int) (xs.map pD)=.ok (pD (vJ b xs))
 | [],b=>rfl
 | x::xs,b=>by
  rw [List.map_cons]
  show (match pcF [pD x] with
   | .ok (.int kx)=>if kx<(b.1:Int) then pM (fun d=>pcF [d]) (pD x) kx (xs.map pD) else pM (fun d=>pcF [d]) (pD b) (b.1:Int) (xs.map pD)
   | _=>.no)=.ok (pD (if x.1<b.1 then vJ x xs else vJ b xs))
  rw [Bd]
  dsimp only
  by_cases h:x.1<b.1
  ·rw [if_pos (by omega),if_pos h];exact sC xs x
  ·rw [if_neg (by omega),if_neg h];exact sC xs b
theorem tD {xs:List Pl} (h:xs≠[]):oW (fun d=>pcF [d]) (xs.map pD)=.ok (pD (EC xs)):=by
 cases xs with
 | nil=>exact absurd rfl h
 | cons b xs=>
  show (match pcF [pD b] with
   | .ok (.int kx)=>pM (fun d=>pcF [d]) (pD b) kx (xs.map pD)
   | _=>.no)=_
  rw [Bd]
  exact sC xs b
theorem gU:∀ (xs:List Pl) (b:Pl),vJ b xs∈b::xs
 | [],b=>List.mem_cons_self ..
 | x::xs,b=>by
  show (if x.1<b.1 then vJ x xs else vJ b xs)∈_
  split
  ·exact List.mem_cons_of_mem _ (gU xs x)
  ·rcases List.mem_cons.1 (gU xs b) with h|h
   ·rw [h];exact List.mem_cons_self ..
   ·exact List.mem_cons_of_mem _ (List.mem_cons_of_mem _ h)
theorem qy {xs:List Pl} (h:xs≠[]):EC xs∈xs:=by
 cases xs with
 | nil=>exact absurd rfl h
 | cons b xs=>exact gU xs b
theorem wq {P:Pl->Prop} {m:Mp} {ks:List Ky} (h:All (fun _=>P) m):∀ p∈fb m ks,P p:=fun p hp=>by
 obtain ⟨k,_,e⟩:=List.mem_filterMap.1 hp
 exact All.at h e
theorem ff {P:Pl->Prop} {m:Mp} {ks:List Ky} (h:All (fun _=>P) m) (hn:fb m ks≠[]):P (gE m ks):=wq h _ (qy hn)
theorem jW {m:Mp} {ks:List Ky} {k:Ky} (hk:k∈ks) (h:m.lookup k≠none):fb m ks≠[]:=by
 cases e:m.lookup k with
 | none=>exact absurd e h
 | some p=>exact List.ne_nil_of_mem (List.mem_filterMap.2 ⟨k,hk,e⟩)
noncomputable def chF:List D->R D:=fun ds=>az (fR pcF (ax 2 ds))
theorem xS {m:Mp}:∀ (ks:List Ky) (a:Option Sl),fM (oX false 1 (rvz 0)) (gJ 1 (rvz 0)) (ks.map kD) [a,vD (dD m)]=.ok ((fb m ks).map pD)
 | [],a=>rfl
 | k::ks,a=>by
  have ih:=xS (m:=m) ks (vD (kD k))
  have h3:qC [vD (kD k),vD (dD m)] 1=.ok (kvD m):=Bm rfl
  have h1:=BE (neg:=false) (i:=1) (ge:=fun ρ=>rdV ρ 0) (ρ:=[vD (kD k),vD (dD m)]) rfl (lg k) h3
  rw [kR,Option.isSome_map] at h1
  show (fK (oX false 1 (rvz 0) [vD (kD k),vD (dD m)])>>=fun k'=>if k'=true then fK (gJ 1 (rvz 0) [vD (kD k),vD (dD m)])>>=fun x=>fM (oX false 1 (rvz 0)) (gJ 1 (rvz 0)) (ks.map kD) [vD (kD k),vD (dD m)]>>=fun xs=>.ok (x::xs) else fM (oX false 1 (rvz 0)) (gJ 1 (rvz 0)) (ks.map kD) [vD (kD k),vD (dD m)])=_
  rw [h1,ih]
  cases e:m.lookup k with
  | none=>
   have:fb m (k::ks)=fb m ks:=by unfold fb;rw [List.filterMap_cons,e]
   rw [this];rfl
  | some p=>
   have h2:=xV (i:=1) (ge:=fun ρ=>rdV ρ 0) (v:=pD p) h3 rfl (lg k) (by rw [kR,e];rfl)
   have:fb m (k::ks)=p::fb m ks:=by unfold fb;rw [List.filterMap_cons,e]
   rw [this,h2];rfl
theorem Cl {m:Mp} {ks:List Ky} (hn:fb m ks≠[]) (hl:ks.length<=4):chF [dD m,.tup (ks.map kD)]=.ok (pD (gE m ks)):=by
 have h1:=xS (m:=m) ks none
 have h2:((fb m ks).map pD).length<=sizeLine:=by
  have h3:1000<=sizeLine:=by decide
  have h4:=List.length_filterMap_le (fun k=>m.lookup k) ks
  rw [List.length_map];unfold fb;omega
 have h5:=tD hn
 have h6:cz (gm (aI bU (rvz 1)) [0] (oX false 1 (rvz 0)) (gJ 1 (rvz 0))) [vD (dD m),vD (.tup (ks.map kD))]=.ok (.lst false ((fb m ks).map pD)):=by
  have h7:bU (.tup (ks.map kD))=.ok (ks.map kD):=rfl
  have h8:hU [0] [vD (dD m),vD (.tup (ks.map kD))]=[none,vD (dD m)]:=rfl
  clear h5
  walk_at "run"
 show az (aH (cA (rq _ pcF)) oNx [vD (dD m),vD (.tup (ks.map kD))])=_
 have h9:rq (cz (gm (aI bU (rvz 1)) [0] (oX false 1 (rvz 0)) (gJ 1 (rvz 0)))) pcF [vD (dD m),vD (.tup (ks.map kD))]=.ok (pD (gE m ks)):=by
  unfold rq
  rw [h6,R.ok_bind]
  exact h5
 clear h6 h5 h2 h1
 walk_at "run"
theorem xO {n:Nat} {h:List D->R D} (e:gl ρ=.ok ds) (l:ds.length=n):aK n h gl ρ=h ds:=by
 unfold aK;rw [e,R.ok_bind,if_pos l]
noncomputable def allK:List Ky:=[(false,false),(true,false),(false,true),(true,true)]
noncomputable def twoK:List Ky:=[(false,false),(true,false)]
noncomputable def m0 (k:Ky):Mp:=[(k,(0,[]))]
noncomputable def cY (n:Nat) (old new:List Nat):Pl:=gE (dZ n old new 0 (m0 (false,false))) allK
noncomputable def ef (n:Nat) (old new:List Nat) (c:Nat):Pl:=gE (dZ n old new c (m0 (true,false))) allK
noncomputable def iK (n:Nat) (old new:List Nat) (c:Nat):Pl:=gE (dZ n (old.take c) (new.take c) 0 (m0 (false,false))) twoK
noncomputable def cQ (n:Nat) (old new:List Nat) (c:Nat):Pl:=((ef n old new c).1+(iK n old new c).1,(ef n old new c).2++(iK n old new c).2)
noncomputable def mz (n:Nat) (old new:List Nat) (c:Nat):Pl:=vJ (cQ n old new c) [cY n old new]
theorem gd0:Gd 0 (m0 (false,false)):=⟨by decide,.inr (fun z=>nomatch z),fun z hz=>by rw [List.mem_singleton.1 hz];exact Nat.le_refl _⟩
theorem gd1:Gd 0 (m0 (true,false)):=⟨by decide,.inl (fun z=>nomatch z),fun z hz=>by rw [List.mem_singleton.1 hz];exact Nat.le_refl _⟩
theorem Gd.two {m:Mp} (g:Gd J m):fb m twoK≠[]:=by
 rcases g.ne with h|h
 ·exact jW (by decide) h
 ·exact jW (by decide) h
theorem Gd.all {m:Mp} (g:Gd J m):fb m allK≠[]:=by
 rcases g.ne with h|h
 ·exact jW (by decide) h
 ·exact jW (by decide) h
noncomputable def peF:List D->R D:=fun ds=>az (bR swF chF (ax 4 ds))
theorem Ga {h:List D->R D} {ga gc gd:Ev->R D}:aK 5 h (aa ga (aa gb (aa gc (aa gd (aa ge fun _=>.ok []))))) ρ=ga ρ>>=fun x=>gb ρ>>=fun y=>gc ρ>>=fun z=>gd ρ>>=fun w=>ge ρ>>=fun v=>h [x,y,z,w,v]:=by
 unfold aK aa
 cases ga ρ <;> try rfl
 simp only [aa,R.ok_bind]
 cases gb ρ <;> try rfl
 simp only [R.ok_bind]
 cases gc ρ <;> try rfl
 simp only [R.ok_bind]
 cases gd ρ <;> try rfl
 simp only [R.ok_bind]
 cases ge ρ <;> rfl
theorem Fe (b:Bool) (ρ:Ev):gD1 (fun _=>R.ok (D.tup [D.bl b,D.bl false])) (fun _=>R.ok (D.tup [D.int 0,D.tup []])) ρ=.ok (dD (m0 (b,false))):=rfl
theorem G0:mkT [D.tup [D.bl false,D.bl false],D.tup [D.bl true,D.bl false],D.tup [D.bl false,D.bl true],D.tup [D.bl true,D.bl true]]=.ok (.tup (allK.map kD)):=rfl
theorem Ji:mkT [D.tup [D.bl false,D.bl false],D.tup [D.bl true,D.bl false]]=.ok (.tup (twoK.map kD)):=rfl
theorem CV (n:Nat) {new:List Nat} (hl:new.length=old.length) (hw:old.length<=40):peF [.int (n:Int),.str old,.str new]=.ok (pD (cY n old new))/\(cY n old new).2.length<=4 * old.length:=by
 obtain ⟨h1,g⟩:=oA gd0 n (b:=0) hl (Nat.zero_le _) (by omega)
 have b:=ff (ks:=allK) (P:=fun p=>p.2.length<=0+4 * (old.length - 0)) g.len g.all
 refine ⟨?_,by unfold cY;omega⟩
 have h1:swF [_,_,_,_,.int 0]=_:=h1
 have h2:=Cl g.all (by decide)
 have k5:=@Ga
 have d1:=Fe
 have k4:=G0
 show az (aH _ _ [vI n,vS old,vS new,none])=_
 unfold cY
 clear b g hw hl
 walk_at "run"
noncomputable def ppF:List D->R D:=fun ds=>az (cD swF chF (ax 7 ds))
theorem BX {x:List Nat} {c:Nat} (h:c<=x.length):Ef none (some (c:Int)) (.str x)=some (.str (x.take c)):=by
 show some (D.str (jh x none (some (c:Int))))=_
 rw [AB x c h]
theorem Bb {a b:List Od} (h:a.length+b.length<=900):bX (.tup (a.map oD)) (.tup (b.map oD))=some (.tup ((a++b).map oD)):=by
 have h1:1000<=sizeLine:=by decide
 show (if _ then _ else _)=_
 rw [if_pos (by simp only [List.length_map];omega),List.map_append]
theorem Jw (n:Nat) {new:List Nat} {c:Nat} (hl:new.length=old.length) (hw:old.length<=40) (hc:c<=old.length):ppF [.int (n:Int),.str old,.str new,.int (c:Int)]=.ok (pD (cQ n old new c))/\(cQ n old new c).2.length<=4 * old.length:=by
 obtain ⟨h1,g1⟩:=oA gd1 n (b:=c) hl hc (by omega)
 have l1:(old.take c).length=c:=by rw [List.length_take];omega
 have l2:(new.take c).length=c:=by rw [List.length_take];omega
 obtain ⟨h2,g2⟩:=oA gd0 n (b:=0) (old:=old.take c) (new:=new.take c) (by omega) (Nat.zero_le _) (by omega)
 have b1:=ff (ks:=allK) (P:=fun p=>p.2.length<=0+4 * (old.length - c)) g1.len g1.all
 have b2:=ff (ks:=twoK) (P:=fun p=>p.2.length<=0+4 * ((old.take c).length - 0)) g2.len g2.two
 have b3:(cQ n old new c).2.length<=4 * old.length:=by unfold cQ ef iK;rw [List.length_append];rw [l1] at b2;omega
 refine ⟨?_,b3⟩
 have h3:_=R.ok (pD (ef n old new c)):=Cl g1.all (by decide)
 have h4:_=R.ok (pD (iK n old new c)):=Cl g2.two (by decide)
 have h2:swF [_,_,_,_,.int 0]=_:=h2
 have h5:=BX (x:=old) hc
 have h6:=BX (x:=new) (by omega:c<=new.length)
 have h7:=Bb (a:=(ef n old new c).2) (b:=(iK n old new c).2) (by unfold cQ at b3;rw [List.length_append] at b3;omega)
 have k5:=@Ga
 have d1:=Fe
 have k4:=G0
 have k2:=Ji
 have i0:∀ p:Pl,ixD (pD p) (.int 0)=some (.int (p.1:Int)):=fun _=>rfl
 have i1:∀ p:Pl,ixD (pD p) (.int 1)=some (.tup (p.2.map oD)):=fun _=>rfl
 have i5:mkT [.int (((ef n old new c).1:Int)+((iK n old new c).1:Int)),.tup (((ef n old new c).2++(iK n old new c).2).map oD)]=.ok (pD (cQ n old new c)):=rfl
 show az (aH _ _ [vI n,vS old,vS new,vI c,none,none,none])=_
 clear b1 b2 b3 l1 l2 g1 g2 hl hw hc
 walk_at "run"
noncomputable def rpF:List D->R D:=fun ds=>az (bZ peF ppF pcF (ax 5 ds))
theorem Fv (n:Nat) {new:List Nat} {c:Nat} (hl:new.length=old.length) (hw:old.length<=40) (hc:c<=old.length):rpF [.int (n:Int),.str old,.str new,.int (c:Int)]=.ok (pD (mz n old new c))/\(mz n old new c).2.length<=4 * old.length:=by
 obtain ⟨h1,b1⟩:=CV n hl hw
 obtain ⟨h2,b2⟩:=Jw n hl hw hc
 refine ⟨?_,?_⟩
 ·have h3:_=R.ok (pD (mz n old new c)):=tD (xs:=[cQ n old new c,cY n old new]) (fun z=>nomatch z)
  have hz:2<=sizeLine:=by decide
  have mn:∀ (ga:Ev->R D) (ρ:Ev),rq ga pcF ρ=ga ρ>>=fun d=>match d with|.lst _ xs=>oW (fun d=>pcF [d]) xs|_=>.no:=fun _ _=>rfl
  show az (aH _ _ [vI n,vS old,vS new,vI c,none])=_
  clear b1 b2 hl hw hc
  rw [List.map_cons,List.map_cons,List.map_nil] at h3
  walk_at "run"
 ·rcases List.mem_cons.1 (gU [cY n old new] (cQ n old new c)) with h|h
  ·unfold mz;rw [h];exact b2
  ·unfold mz;rw [List.mem_singleton.1 h];exact b1
theorem nv {P:Pl->Prop} {m:Mp} {a b:Ky} {o:Od} (h:All (fun _=>P) m) (ho:∀ p,P p->P (jd p o)):All (fun _=>P) (move m a b o):=by
 unfold move
 split
 ·rename_i p e;exact All.offer h (ho p (All.at h e))
 ·exact h
theorem uQ {P:Pl->Prop} {n b:Nat} {new:List Nat} {m:Mp} (h:All (fun _=>P) m) (hg:∀ c,c<old.length->∀ p,P p->P (jd p (.go n c))) (hw:∀ p,P p->P (jd p .wipe)) (hs:∀ c,c<old.length->∀ p,P p->P (jd p (.say [new.getD c 0]))):All (fun _=>P) (dZ n old new b m):=by
 refine jV (P:=All (fun _=>P)) h fun a c hc ha=>?_
 have hc':c<old.length:=by rw [List.mem_range'_1] at hc;omega
 exact mW (P:=fun _=>P) (nv (nv (nv ha (hg c hc')) hw) (hg c hc')) (fun k p hp _=>hs c hc' p hp) fun k p hp _=>hp
noncomputable def POk (p:Pl):Prop:=(∀ o∈p.2,okO o=true/\oZ o<=1)/\p.1=(p.2.map bv).sum
theorem POk.add {p:Pl} {o:Od} (h:POk p) (ho:okO o=true) (hs:oZ o<=1):POk (jd p o):=by
 refine ⟨fun x hx=>?_,?_⟩
 ·rcases List.mem_append.1 hx with hx|hx
  ·exact h.1 x hx
  ·rw [List.mem_singleton.1 hx];exact ⟨ho,hs⟩
 ·simp only [jd,List.map_append,List.sum_append,h.2];simp
theorem POk.zero:POk (0,[]):=⟨fun _ h=>(by cases h),rfl⟩
theorem Ac {o:Od} (h:okO o=true):1<=bv o:=by
 cases o with
 | say x=>simp only [okO,Bool.and_eq_true,decide_eq_true_eq] at h;exact h.2.1
 | go _ _=>exact Nat.le_succ _
 | wipe=>exact Nat.le_refl _
theorem POk.nil {p:Pl} (h:POk p) (e:p.1=0):p=(0,[]):=by
 obtain ⟨c,os⟩:=p
 cases os with
 | nil=>cases e;rfl
 | cons o os=>
  have h1:=Ac (h.1 o (List.mem_cons_self ..)).1
  have h2:=h.2
  simp only [List.map_cons,List.sum_cons] at h2
  dsimp only at e
  omega
theorem yO {x:List Nat} {c:Nat} (h:plain x=true) (hc:c<x.length):plain [x.getD c 0]=true:=by
 have:x.getD c 0∈x:=by rw [List.getD_eq_getElem?_getD,List.getElem?_eq_getElem hc];exact List.getElem_mem hc
 unfold plain at h ⊢
 simp only [List.all_cons,List.all_nil,Bool.and_true]
 exact List.all_eq_true.1 h _ this
theorem lB {n b:Nat} {new:List Nat} {m:Mp} (h:All (fun _=>POk) m) (hn:n<=11) (hw:old.length<=40) (hl:new.length=old.length) (hp:plain new=true):All (fun _=>POk) (dZ n old new b m):=
 uQ h (fun c hc p q=>q.add (by simp only [okO,Bool.and_eq_true,decide_eq_true_eq];omega) (Nat.zero_le _)) (fun p q=>q.add rfl (Nat.zero_le _))
  fun c hc p q=>q.add (by have:=yO hp (by omega:c<new.length);simp only [okO,this];rfl) (Nat.le_refl _)
theorem wQ (k:Ky):All (fun _=>POk) (m0 k):=fun z hz=>by rw [List.mem_singleton.1 hz];exact POk.zero
theorem jQ {n:Nat} {new:List Nat} (hn:n<=11) (hw:old.length<=40) (hl:new.length=old.length) (hp:plain new=true):POk (cY n old new):=
 ff (lB (wQ _) hn hw hl hp) (oA gd0 n (b:=0) hl (Nat.zero_le _) (by omega)).2.all
theorem Bn {x:List Nat} (n:Nat) (h:plain x=true):plain (x.take n)=true:=by
 simp only [plain,List.all_eq_true] at *;exact fun c hc=>h c (List.mem_of_mem_take hc)
theorem qv {n c:Nat} {new:List Nat} (hn:n<=11) (hw:old.length<=40) (hl:new.length=old.length) (hp:plain new=true) (hc:c<=old.length):POk (ef n old new c):=
 ff (lB (wQ _) hn hw hl hp) (oA gd1 n (b:=c) hl hc (by omega)).2.all
theorem uI {n c:Nat} {new:List Nat} (hn:n<=11) (hw:old.length<=40) (hl:new.length=old.length) (hp:plain new=true) (hc:c<=old.length):POk (iK n old new c):=by
 have l1:(old.take c).length=c:=by rw [List.length_take];omega
 have l2:(new.take c).length=c:=by rw [List.length_take];omega
 exact ff (lB (wQ _) hn (by omega) (by omega) (Bn c hp)) (oA gd0 n (b:=0) (old:=old.take c) (new:=new.take c) (by omega) (Nat.zero_le _) (by omega)).2.two
theorem xC {n c:Nat} {new:List Nat} (hn:n<=11) (hw:old.length<=40) (hl:new.length=old.length) (hp:plain new=true) (hc:c<=old.length):POk (cQ n old new c):=by
 have h1:=qv hn hw hl hp hc
 have h2:=uI hn hw hl hp hc
 refine ⟨fun o ho=>?_,?_⟩
 ·rcases List.mem_append.1 ho with ho|ho
  ·exact h1.1 o ho
  ·exact h2.1 o ho
 ·show _+_=_
  rw [h1.2,h2.2];simp [cQ]
theorem xT {n c:Nat} {new:List Nat} (hn:n<=11) (hw:old.length<=40) (hl:new.length=old.length) (hp:plain new=true) (hc:c<=old.length):POk (mz n old new c):=by
 rcases List.mem_cons.1 (gU [cY n old new] (cQ n old new c)) with h|h
 ·unfold mz;rw [h];exact xC hn hw hl hp hc
 ·unfold mz;rw [List.mem_singleton.1 h];exact jQ hn hw hl hp
noncomputable def Has (m:Mp) (k:Ky) (v:Nat):Prop:=∃ q,m.lookup k=some q/\q.1<=v
theorem Has.offer {m:Mp} {j k:Ky} {v:Nat} {p:Pl} (h:Has m j v):Has (bE m k p) j v:=by
 obtain ⟨q,e,hq⟩:=h
 unfold Has
 rw [gM]
 by_cases z:j=k
 ·subst z
  rw [if_pos rfl,e]
  dsimp only
  by_cases y:p.1<q.1
  ·rw [if_pos y];exact ⟨p,rfl,by omega⟩
  ·rw [if_neg y];exact ⟨q,rfl,hq⟩
 ·rw [if_neg z];exact ⟨q,e,hq⟩
theorem Has.new {m:Mp} {k:Ky} {p:Pl}:Has (bE m k p) k p.1:=by
 unfold Has
 rw [gM,if_pos rfl]
 cases m.lookup k with
 | none=>exact ⟨p,rfl,Nat.le_refl _⟩
 | some q=>
  dsimp only
  by_cases y:p.1<q.1
  ·rw [if_pos y];exact ⟨p,rfl,Nat.le_refl _⟩
  ·rw [if_neg y];exact ⟨q,rfl,by omega⟩
theorem Has.mono {m:Mp} {k:Ky} {v w:Nat} (h:Has m k v) (l:v<=w):Has m k w:=by
 obtain ⟨q,e,hq⟩:=h;exact ⟨q,e,Nat.le_trans hq l⟩
theorem Has.keep {m:Mp} {a b j:Ky} {o:Od} {v:Nat} (h:Has m j v):Has (move m a b o) j v:=by
 unfold move
 split
 ·exact h.offer
 ·exact h
theorem Has.move {m:Mp} {a b:Ky} {o:Od} {v:Nat} (h:Has m a v):Has (move m a b o) b (v+bv o):=by
 obtain ⟨q,e,hq⟩:=h
 unfold Q.move
 rw [e]
 exact Has.new.mono (by show q.1+bv o<=_;omega)
theorem Has.sovK {old new:Nat} {acc:Mp} {z:Ky×Pl} {j:Ky} {v:Nat} (h:Has acc j v):Has (sovK old new acc z) j v:=by
 unfold Q.sovK
 have h1:Has (if z.1.1=true then bE acc (true,z.1.2) (jd z.2 (.say [new])) else acc) j v:=by
  split
  ·exact h.offer
  ·exact h
 dsimp only
 split
 ·exact h1.offer
 ·exact h1
theorem oy {old new:Nat} {j:Ky} {v:Nat}:∀ {l acc:Mp},(Has acc j v\/∃ z∈l,∀ acc,Has (sovK old new acc z) j v)->Has (l.foldl (sovK old new) acc) j v
 | [],acc,h=>by
  rcases h with h|⟨z,hz,_⟩
  ·exact h
  ·cases hz
 | x::l,acc,h=>by
  refine oy (l:=l) ?_
  rcases h with h|⟨z,hz,H⟩
  ·exact .inl h.sovK
  ·rcases List.mem_cons.1 hz with hz|hz
   ·subst hz;exact .inl (H acc)
   ·exact .inr ⟨z,hz,H⟩
theorem Has.say {old new:Nat} {m:Mp} {w:Bool} {v:Nat} (h:Has m (true,w) v):Has (xQ old new m) (true,w) (v+1):=by
 obtain ⟨q,e,hq⟩:=h
 refine oy (.inr ⟨_,iY e,fun acc=>?_⟩)
 unfold Q.sovK
 dsimp only
 rw [if_pos rfl]
 have h1:Has (bE acc (true,w) (jd q (.say [new]))) (true,w) (v+1):=Has.new.mono (by show q.1+1<=_;omega)
 split
 ·exact h1.offer
 ·exact h1
theorem Has.leave {old new:Nat} {m:Mp} {a w:Bool} {v:Nat} (h:Has m (a,w) v) (e:und old w=new):Has (xQ old new m) (false,w) v:=by
 obtain ⟨q,e',hq⟩:=h
 refine oy (.inr ⟨_,iY e',fun acc=>?_⟩)
 unfold Q.sovK
 dsimp only
 rw [if_pos e]
 exact Has.new.mono hq
theorem fS:∀ (xs:List Pl) (b:Pl) (p:Pl),p∈b::xs->(vJ b xs).1<=p.1
 | [],b,p,h=>by rw [List.mem_singleton.1 h];exact Nat.le_refl _
 | x::xs,b,p,h=>by
  show (if x.1<b.1 then vJ x xs else vJ b xs).1<=_
  by_cases y:x.1<b.1
  ·rw [if_pos y]
   rcases List.mem_cons.1 h with h|h
   ·rw [h];exact Nat.le_trans (fS xs x x (List.mem_cons_self ..)) (Nat.le_of_lt y)
   ·exact fS xs x p h
  ·rw [if_neg y]
   rcases List.mem_cons.1 h with h|h
   ·rw [h];exact fS xs b b (List.mem_cons_self ..)
   ·rcases List.mem_cons.1 h with h|h
    ·rw [h];exact Nat.le_trans (fS xs b b (List.mem_cons_self ..)) (by omega)
    ·exact fS xs b p (List.mem_cons_of_mem _ h)
theorem fo {m:Mp} {ks:List Ky} {k:Ky} {v:Nat} (hk:k∈ks) (h:Has m k v):(gE m ks).1<=v:=by
 obtain ⟨q,e,hq⟩:=h
 have hm:q∈fb m ks:=List.mem_filterMap.2 ⟨k,hk,e⟩
 unfold gE
 cases c:fb m ks with
 | nil=>rw [c] at hm;cases hm
 | cons b xs=>rw [c] at hm;exact Nat.le_trans (fS xs b q hm) hq
theorem jf {n:Nat} {x:List Nat}:∀ (k b:Nat) (m:Mp),Has m (false,false) 0->Has ((List.range' b k).foldl (rR n x x) m) (false,false) 0
 | 0,b,m,h=>h
 | k+1,b,m,h=>by
  rw [List.range'_succ,List.foldl_cons]
  exact jf k (b+1) _ (Has.leave (a:=false) (((h.keep).keep).keep) rfl)
theorem E3 (k:Ky):Has (m0 k) k 0:=⟨(0,[]),by unfold m0;rw [List.lookup_cons,beq_self_eq_true],Nat.le_refl _⟩
theorem qA {n:Nat} {x:List Nat} (hn:n<=11) (hw:x.length<=40) (hp:plain x=true):cY n x x=(0,[]):=by
 refine (jQ hn hw rfl hp).nil ?_
 exact Nat.le_zero.1 (fo (k:=(false,false)) (by decide) (jf _ _ _ (E3 _)))
theorem zf {n c:Nat} {x:List Nat} (hn:n<=11) (hw:x.length<=40) (hp:plain x=true) (hc:c<=x.length):iK n x x c=(0,[]):=by
 refine (uI hn hw rfl hp hc).nil ?_
 exact Nat.le_zero.1 (fo (k:=(false,false)) (by decide) (jf _ _ _ (E3 _)))
theorem vy {n c:Nat} {x:List Nat} (hn:n<=11) (hw:x.length<=40) (hp:plain x=true) (hc:c<=x.length):ef n x x c=(0,[]):=by
 refine (qv hn hw rfl hp hc).nil (Nat.le_zero.1 ?_)
 unfold ef dZ
 cases e:x.length - c with
 | zero=>exact fo (k:=(true,false)) (by decide) (E3 _)
 | succ k=>
  rw [List.range'_succ,List.foldl_cons]
  exact fo (k:=(false,false)) (by decide) (jf _ _ _ (Has.leave (a:=true) ((((E3 (true,false)).keep).keep).keep) rfl))
theorem Aj {n c:Nat} {x:List Nat} (hn:n<=11) (hw:x.length<=40) (hp:plain x=true) (hc:c<=x.length):mz n x x c=(0,[]):=by
 unfold mz cQ
 rw [zf hn hw hp hc,vy hn hw hp hc,qA hn hw hp];rfl
structure GL (s:St) (g:List (List Nat)):Prop where
 n:g.length=s.2.1.length
 l:∀ x∈g,x.length=s.1/\plain x=true
theorem lO {s:St} {xs:List (List Nat)} (h:bi s.2.1.length s.1 xs=true):GL s (au s.2.1.length s.1 xs):=by
 obtain ⟨h1,h2⟩:=sZ h
 have hp:∀ n,plain (List.replicate n 32)=true:=fun n=>vf n 32 (by decide)
 unfold au
 refine ⟨by rw [List.length_append,List.length_map,List.length_replicate];omega,fun x hx=>?_⟩
 rcases List.mem_append.1 hx with hx|hx
 ·obtain ⟨y,hy,rfl⟩:=List.mem_map.1 hx
  have:=h2 y hy
  unfold yc
  exact ⟨by rw [List.length_append,List.length_replicate];omega,eT this.1 (hp _)⟩
 ·rw [(List.mem_replicate.1 hx).2];exact ⟨List.length_replicate ..,hp _⟩
theorem eA {s:St} {g:List (List Nat)} (h:GL s g) (hi:i<s.2.1.length):(g.getD i []).length=s.1/\plain (g.getD i [])=true:=by
 have:g.getD i []∈g:=gW (by rw [h.n];exact hi)
 exact h.l _ this
theorem bz {s:St} (h:GS s) (hi:i<s.2.1.length):(s.2.1.getD i []).length=s.1/\plain (s.2.1.getD i [])=true:=h.l _ (gW hi)
noncomputable def qZ (s:St) (g:List (List Nat)) (i:Nat):List Od:=if i=s.2.2.1 then [] else (cY i (s.2.1.getD i []) (g.getD i [])).2
noncomputable def ic (s:St) (g:List (List Nat)):List Od:=(mz s.2.2.1 (s.2.1.getD s.2.2.1 []) (g.getD s.2.2.1 []) s.2.2.2).2
noncomputable def bW (s:St) (g:List (List Nat)):List Od:=ic s g++(List.range' 0 s.2.1.length).flatMap (qZ s g)
theorem yN {s:St} {g:List (List Nat)} (h:GS s) (hg:GL s g) (hi:i<s.2.1.length):(qZ s g i).length<=4 * s.1:=by
 unfold qZ
 split
 ·exact Nat.zero_le _
 ·have:=(CV i (old:=s.2.1.getD i []) (new:=g.getD i []) (by rw [(bz h hi).1,(eA hg hi).1]) (by rw [(bz h hi).1];exact h.w2)).2
  rwa [(bz h hi).1] at this
theorem Hn {s:St} {g:List (List Nat)} (h:GS s) (hg:GL s g) (hi:i<s.2.1.length):∀ o∈qZ s g i,okO o=true/\oZ o<=1:=by
 unfold qZ
 split
 ·exact fun o ho=>by cases ho
 ·have hm:=h.m
  exact (jQ (n:=i) (by omega) (by rw [(bz h hi).1];exact h.w2) (by rw [(bz h hi).1,(eA hg hi).1]) (eA hg hi).2).1
theorem qK {s:St} {g:List (List Nat)} (h:GS s) (hg:GL s g):(ic s g).length<=4 * s.1:=by
 have:=(Fv s.2.2.1 (old:=s.2.1.getD s.2.2.1 []) (new:=g.getD s.2.2.1 []) (c:=s.2.2.2) (by rw [(bz h h.r).1,(eA hg h.r).1]) (by rw [(bz h h.r).1];exact h.w2) (by rw [(bz h h.r).1];exact h.c)).2
 rwa [(bz h h.r).1] at this
theorem Ah {s:St} {g:List (List Nat)} (h:GS s) (hg:GL s g):∀ o∈ic s g,okO o=true/\oZ o<=1:=by
 have hm:=h.m
 have hr:=h.r
 exact (xT (n:=s.2.2.1) (c:=s.2.2.2) (by omega) (by rw [(bz h h.r).1];exact h.w2) (by rw [(bz h h.r).1,(eA hg h.r).1]) (eA hg h.r).2 (by rw [(bz h h.r).1];exact h.c)).1
theorem za (rows:List (List Nat)):bF 0 (rows.map .str)=(List.range' 0 rows.length).map fun (i:Nat)=>.tup [.int (i:Int),.str (rows.getD i [])]:=by
 unfold bF
 rw [List.length_map,List.range_eq_range']
 refine List.map_congr_left fun i hi=>?_
 have hi':i<rows.length:=by rw [List.mem_range'_1] at hi;omega
 rw [List.getD_eq_getElem?_getD,List.getD_eq_getElem?_getD,List.getElem?_map,List.getElem?_eq_getElem hi',Nat.zero_add];rfl
theorem wx {F1 F2 F3 F4:List D->R D} {x0 x1:Option Sl} {s:St} {g:List (List Nat)} (h:GS s) (hg:GL s g):∀ (k j:Nat) (acc:List Od) (x5 x6:Option Sl),j+k<=s.2.1.length->acc.length+4 * s.1 * k<=900->∃ y5 y6,cN (Al [5,6]) (jP F1 F2 F3 peF F4) ((List.range' j k).map fun (i:Nat)=>.tup [.int (i:Int),.str (s.2.1.getD i [])])
  [x0,x1,vD (.lst false (g.map .str)),vD (.int (s.2.2.1:Int)),some (.own (acc.map oD)),x5,x6] =
  .nx [x0,x1,vD (.lst false (g.map .str)),vD (.int (s.2.2.1:Int)),some (.own ((acc++(List.range' j k).flatMap (qZ s g)).map oD)),y5,y6]
 | 0,j,acc,x5,x6,_,_=>⟨x5,x6,by simp [tR]⟩
 | k+1,j,acc,x5,x6,hj,hl=>by
  have hi:j<s.2.1.length:=by omega
  have b1:=yN h hg hi
  rw [Nat.mul_succ] at hl
  obtain ⟨y5,y6,ih⟩:=wx (F1:=F1) (F2:=F2) (F3:=F3) (F4:=F4) (x0:=x0) (x1:=x1) h hg k (j+1) (acc++qZ s g j) (vI j) (vS (s.2.1.getD j [])) (by omega) (by rw [List.length_append];omega)
  refine ⟨y5,y6,?_⟩
  rw [List.range'_succ,List.map_cons,iz (ρ1:=[x0,x1,vD (.lst false (g.map .str)),vD (.int (s.2.2.1:Int)),some (.own (acc.map oD)),vI j,vS (s.2.1.getD j [])]) (ρ2:=[x0,x1,vD (.lst false (g.map .str)),vD (.int (s.2.2.1:Int)),some (.own ((acc++qZ s g j).map oD)),vI j,vS (s.2.1.getD j [])]) rfl ?_,ih,List.flatMap_cons,List.append_assoc]
  clear ih
  have e1:neF (.int (j:Int)) (.int (s.2.2.1:Int))=some (.bl (!decide (j=s.2.2.1))):=by
   rw [Kh]
   by_cases z:j=s.2.2.1
   ·rw [z,beq_self_eq_true,decide_eq_true rfl]
   ·rw [decide_eq_false z,beq_eq_false_iff_ne.2 (by omega)]
  unfold jP qZ
  by_cases z:j=s.2.2.1
  ·rw [if_pos z,List.append_nil]
   rw [decide_eq_true z] at e1
   clear z b1 hl hj hi
   walk_at "run"
  ·rw [if_neg z]
   rw [decide_eq_false z] at e1
   have e2:=(CV j (old:=s.2.1.getD j []) (new:=g.getD j []) (by rw [(bz h hi).1,(eA hg hi).1]) (by rw [(bz h hi).1];exact h.w2)).1
   have e3:ixD (.lst false (g.map .str)) (.int (j:Int))=some (.str (g.getD j [])):=J8 (by rw [List.getElem?_map,List.getElem?_eq_getElem (by rw [hg.n];exact hi),List.getD_eq_getElem?_getD,List.getElem?_eq_getElem (by rw [hg.n];exact hi)];rfl)
   have e4:ixD (pD (cY j (s.2.1.getD j []) (g.getD j []))) (.int 1)=some (.tup ((cY j (s.2.1.getD j []) (g.getD j [])).2.map oD)):=rfl
   have e5:∀ (ga:Ev->R D) (ρ:Ev),Eb 4 ga ρ=(ownAt ρ 4).out ρ fun ds=>(ga ρ).out ρ fun d=>(asT d).out ρ fun es=>if ds.length+es.length<=sizeLine then .nx (ρ.set 4 (some (.own (ds++es)))) else .no:=fun _ _=>rfl
   have e6:asT (.tup ((cY j (s.2.1.getD j []) (g.getD j [])).2.map oD))=.ok ((cY j (s.2.1.getD j []) (g.getD j [])).2.map oD):=rfl
   have e7:(acc.map oD).length+((cY j (s.2.1.getD j []) (g.getD j [])).2.map oD).length<=sizeLine:=by
    have h1:1000<=sizeLine:=by decide
    unfold qZ at b1
    rw [if_neg z] at b1
    rw [List.length_map,List.length_map];omega
   have e8:∀ (a0 a1 a2 a3:Option Sl) (ds:List D) (ρ:Ev),ownAt (a0::a1::a2::a3::some (.own ds)::ρ) 4=.ok ds:=fun _ _ _ _ _ _=>rfl
   rw [List.map_append]
   clear z b1 hl hj hi
   walk_at "run"
theorem ug {s:St} {g:List (List Nat)} (h:GS s) (hg:GL s g):∀ (k j:Nat),j+k<=s.2.1.length->((List.range' j k).flatMap (qZ s g)).length<=4 * s.1 * k
 | 0,_,_=>Nat.zero_le _
 | k+1,j,hj=>by
  have:=ug h hg k (j+1) (by omega)
  have b1:=yN h hg (i:=j) (by omega)
  rw [List.range'_succ,List.flatMap_cons,List.length_append,Nat.mul_succ];omega
theorem pf {s:St} {g:List (List Nat)} (h:GS s) (hg:GL s g):(bW s g).length<=4 * s.1 * (s.2.1.length+1):=by
 have:=ug h hg s.2.1.length 0 (by omega)
 have b1:=qK h hg
 unfold bW
 rw [List.length_append,Nat.mul_succ];omega
theorem fU {s:St} {g:List (List Nat)} (h:GS s) (hg:GL s g):∀ o∈bW s g,okO o=true/\oZ o<=1:=fun o ho=>by
 rcases List.mem_append.1 ho with ho|ho
 ·exact Ah h hg o ho
 ·obtain ⟨i,hi,ho⟩:=List.mem_flatMap.1 ho
  exact Hn h hg (by rw [List.mem_range'_1] at hi;omega) o ho
noncomputable def leF (Co:Addr):List D->R D:=fun ds=>az (lW crN frG rpF peF (shG Co) (ax 7 ds))
theorem Jg {os:List Od} (h:∀ o∈os,okO o=true/\oZ o<=1) (hl:os.length<=900):shG C [.lst false (os.map oD)]=.ok (.lst false ((shO os).map oD)):=Lu (fun o ho=>(h o ho).1) (by omega)
theorem Iw {s:St} (h:GS s) {xs:List (List Nat)} (hx:bi s.2.1.length s.1 xs=true) (hb:4 * s.1 * (s.2.1.length+1)<=900) (f:Bool):leF C [sD s,.lst f (xs.map .str)]=.ok (.lst false ((shO (bW s (au s.2.1.length s.1 xs))).map oD)):=by
 have c1:=HM h hx f
 have c2:=E9 h hx f
 have hg:=lO hx
 generalize au s.2.1.length s.1 xs=g at c2 hg ⊢
 have c3:=(Fv s.2.2.1 (old:=s.2.1.getD s.2.2.1 []) (new:=g.getD s.2.2.1 []) (c:=s.2.2.2) (by rw [(bz h h.r).1,(eA hg h.r).1]) (by rw [(bz h h.r).1];exact h.w2) (by rw [(bz h h.r).1];exact h.c)).1
 have c4:=Jg (C:=C) (fU h hg) (Nat.le_trans (pf h hg) hb)
 have i1:ixD (sD s) (.int 2)=some (.tup [.int (s.2.2.1:Int),.int (s.2.2.2:Int)]):=rfl
 have i2:ixD (.tup [.int (s.2.2.1:Int),.int (s.2.2.2:Int)]) (.int 0)=some (.int (s.2.2.1:Int)):=rfl
 have i3:ixD (.tup [.int (s.2.2.1:Int),.int (s.2.2.2:Int)]) (.int 1)=some (.int (s.2.2.2:Int)):=rfl
 have i4:ixD (sD s) (.int 1)=some (.tup (s.2.1.map .str)):=rfl
 have i5:ixD (.tup (s.2.1.map D.str)) (.int (s.2.2.1:Int))=some (.str (s.2.1.getD s.2.2.1 [])):=Ll (by rw [List.getElem?_map,List.getElem?_eq_getElem h.r,List.getD_eq_getElem?_getD,List.getElem?_eq_getElem h.r];rfl)
 have hr:=h.r
 have i6:ixD (.lst false (g.map D.str)) (.int (s.2.2.1:Int))=some (.str (g.getD s.2.2.1 [])):=J8 (by rw [List.getElem?_map,List.getElem?_eq_getElem (by rw [hg.n];exact hr),List.getD_eq_getElem?_getD,List.getElem?_eq_getElem (by rw [hg.n];exact hr)];rfl)
 have i7:ixD (pD (mz s.2.2.1 (s.2.1.getD s.2.2.1 []) (g.getD s.2.2.1 []) s.2.2.2)) (.int 1)=some (.tup ((ic s g).map oD)):=rfl
 have i8:sS (.tup (s.2.1.map .str))=.ok ((List.range' 0 s.2.1.length).map fun (i:Nat)=>.tup [.int (i:Int),.str (s.2.1.getD i [])]):=by
  show R.ok (bF 0 (s.2.1.map .str))=_
  rw [za]
 obtain ⟨y5,y6,lp0⟩:=wx (F1:=crN) (F2:=frG) (F3:=rpF) (F4:=shG C) (x0:=vD (sD s)) (x1:=vD (.lst f (xs.map .str))) h hg s.2.1.length 0 (ic s g) none none (by omega) (by have:=qK h hg;rw [Nat.mul_succ] at hb;omega)
 have lp:cN (Al [5,6]) (jP crN frG rpF peF (shG C)) ((List.range' 0 s.2.1.length).map fun (i:Nat)=>.tup [.int (i:Int),.str (s.2.1.getD i [])]) [vD (sD s),vD (.lst f (xs.map .str)),vD (.lst false (g.map .str)),vD (.int (s.2.2.1:Int)),some (.own ((ic s g).map oD)),none,none]=.nx [vD (sD s),vD (.lst f (xs.map .str)),vD (.lst false (g.map .str)),vD (.int (s.2.2.1:Int)),some (.own ((bW s g).map oD)),y5,y6]:=lp0
 clear lp0
 show az (aH _ _ [vD (sD s),vD (.lst f (xs.map .str)),none,none,none,none,none])=_
 clear hg hx hb hr h
 walk_at "run"
noncomputable def cR (Co:Addr):List D->R D:=fun ds=>az (eN (leF Co) (coG Co) (ax 2 ds))
noncomputable def ay (s:St) (g:List (List Nat)):Nat:=((shO (bW s g)).map bv).sum
theorem IP {f:Bool} {os:List Od} (h:∀ o∈os,okO o=true) (hl:os.length<=1000):coG C [.lst f (os.map oD)]=.ok (.int ((os.map bv).sum:Nat)):=Lw h hl
theorem De {s:St} (h:GS s) {xs:List (List Nat)} (hx:bi s.2.1.length s.1 xs=true) (hb:4 * s.1 * (s.2.1.length+1)<=900) (f:Bool):cR C [sD s,.lst f (xs.map .str)]=.ok (.int (ay s (au s.2.1.length s.1 xs):Int)):=by
 have e1:=Iw (C:=C) h hx hb f
 have hg:=lO hx
 have b1:=pf h hg
 have b2:=(lP (bW s (au s.2.1.length s.1 xs)) []).1
 have e2:=IP (C:=C) (f:=false) (D5 fun o ho=>(fU h hg o ho).1) (by unfold shO;simp only [List.length_nil] at b2;omega)
 show az (aH _ _ [vD (sD s),vD (.lst f (xs.map .str))])=_
 unfold ay
 clear b1 b2 hg hb hx h
 walk_at "run"
theorem rL {s:St} (h:GS s):bW s s.2.1=[]:=by
 have hm:=h.m
 have hr:=h.r
 have hg:GL s s.2.1:=⟨rfl,h.l⟩
 have e1:ic s s.2.1=[]:=by
  unfold ic
  rw [Aj (by omega) (by rw [(bz h h.r).1];exact h.w2) (bz h h.r).2 (by rw [(bz h h.r).1];exact h.c)]
 unfold bW
 rw [e1,List.nil_append]
 refine List.flatMap_eq_nil_iff.2 fun i hi=>?_
 rw [List.mem_range'_1] at hi
 have hi':i<s.2.1.length:=by omega
 unfold qZ
 split
 ·rfl
 ·rw [qA (by omega) (by rw [(bz h hi').1];exact h.w2) (bz h hi').2]
theorem sF {s:St} (h:GS s):ay s s.2.1=0:=by
 unfold ay;rw [rL h];rfl
noncomputable def aU:List Nat:=[98,114,105,110,103]
noncomputable def brS (s:St) (g:List (List Nat)):St:=(s.1,g,s.2.2)
theorem Aa {s:St} {g:List (List Nat)} (h:GS s) (hg:GL s g):GS (brS s g):=⟨h.w1,h.w2,by show g.length<=12;rw [hg.n];exact h.m,by show s.2.2.1<g.length;rw [hg.n];exact h.r,h.c,hg.l⟩
section
variable {Cp Co:Addr}
noncomputable def db (Co:Addr):MF:=AQ fun sts _ _ b c ds=>match ds with
 | [r]=>(match cR Co [b,r],frG [b,r],b with
  | .ok (.int pr),.ok (.lst false ys),.tup [w,_,pl]=>if sts.length<1000 then .ok (.int pr) (cw (sts++[st3 (.str aU) (.tup [w,.tup ys,pl]) (c+pr)]) []) else .no
  | _,_,_=>.no)
 | _=>.no
theorem CG:cW Cp (iS Cp cT DM (cR Co) frG) 4 (db Co):=by
 refine oM fun p l tk a b c ds=>?_
 match ds with
 | []=>trivial
 | _::_::_=>simp
 | [r]=>
  dsimp only
  cases h1:cR Co [b,r] with
  | no=>trivial
  | ex E=>trivial
  | ok pd=>
   cases pd with
   | int pr=>
    cases h2:frG [b,r] with
    | no=>trivial
    | ex E=>trivial
    | ok yd=>
     cases yd with
     | lst f ys=>
      cases f with
      | true=>trivial
      | false=>
       cases b with
       | tup bs=>
        match bs with
        | []=>trivial
        | [_]=>trivial
        | [_,_]=>trivial
        | _::_::_::_::_=>trivial
        | [w,y,pl]=>
         dsimp only
         by_cases hl:(l++[st3 a (.tup [w,y,pl]) c]).length<1000
         ·rw [if_pos hl]
          dsimp only
          have s2:cT (cw (l++[st3 a (.tup [w,y,pl]) c]) tk) []=.rd (.tup [w,y,pl]):=ir _ l tk a (.tup [w,y,pl]) c []
          have o0:∀ m r,oY Cp (some (.obj m Cp p (cw (l++[st3 a (.tup [w,y,pl]) c]) tk))::r) 0=.ok (cw (l++[st3 a (.tup [w,y,pl]) c]) tk):=fun m r=>iA rfl
          have s3:DM (cw (l++[st3 a (.tup [w,y,pl]) c]) tk) [.str aU,.tup [w,.tup ys,pl],.int pr]=.ok .non (cw (l++[st3 a (.tup [w,y,pl]) c]++[st3 (.str aU) (.tup [w,.tup ys,pl]) (c+pr)]) []):=(ir _ l tk a (.tup [w,y,pl]) c _).trans (if_pos hl)
          have o1:∀ r fs,qW Cp (some (.obj true Cp p fs)::r) 0=.ok (p,fs):=fun r fs=>kH rfl
          have wd:D.str [98,114,105,110,103]=.str aU:=rfl
          have i0:ixD (.tup [w,y,pl]) (.int 0)=some w:=rfl
          have i2:ixD (.tup [w,y,pl]) (.int 2)=some pl:=rfl
          have t1:kK [.lst false ys]=some (.tup ys):=rfl
          have mk3:∀ x y z,mkT [x,y,z]=.ok (.tup [x,y,z]):=fun _ _ _=>rfl
          refine ⟨[some (.obj true Cp p (cw (l++[st3 a (.tup [w,y,pl]) c]++[st3 (.str aU) (.tup [w,.tup ys,pl]) (c+pr)]) [])),vD r,vD (.tup [w,y,pl]),vD (.int pr)],rfl,.inl ?_⟩
          show aH _ _ [some (.obj true Cp p (cw (l++[st3 a (.tup [w,y,pl]) c]) tk)),vD r,none,none]=_
          clear hl
          walk_at "run"
         ·rw [if_neg hl];trivial
       | _=>trivial
     | _=>trivial
   | _=>trivial
theorem jS {s:St} (h:GS s) {xs:List (List Nat)} (hx:bi s.2.1.length s.1 xs=true) (hb:4 * s.1 * (s.2.1.length+1)<=900) {f:Bool} {l tk:List D} {a:D} {c:Int} (hl:l.length<900) :
  db Co (cw (l++[st3 a (sD s) c]) tk) [.lst f (xs.map .str)]=.ok (.int (ay s (au s.2.1.length s.1 xs):Int)) (cw (l++[st3 a (sD s) c]++[st3 (.str aU) (sD (brS s (au s.2.1.length s.1 xs))) (c+(ay s (au s.2.1.length s.1 xs):Int))]) []):=by
 refine (ir _ l tk a (sD s) c _).trans ?_
 dsimp only
 rw [De h hx hb f,E9 h hx f]
 exact if_pos (by simp;omega)
theorem CW {s:St} (h:GS s) {xs:List (List Nat)} (hx:bi s.2.1.length s.1 xs=true) (hb:4 * s.1 * (s.2.1.length+1)<=900) (e:au s.2.1.length s.1 xs=s.2.1) {f:Bool}:cR Co [sD s,.lst f (xs.map .str)]=.ok (.int 0):=by
 rw [De h hx hb f,e,sF h];rfl
end
noncomputable def kn (aN:List D->R D):Ev->O:=(aH (oe (aK 1 aN (aa (rvz 0) nlz))) (aH (cA (cz (gm (aI bU (g2 ixD (rvz 0) (ciz 1))) [] (fun _=>R.ok true) (lU "str" dM (rvz 0) (aa (csz [32]) nlz))))) oNx))
noncomputable def ut (C:Addr):List D->R D:=fun ds=>az (kn (hZ C) (ax 1 ds))
noncomputable def shR (s:St):List (List Nat):=s.2.1.map fun x=>bf x [32]
theorem xR {s:St} (h:GS s):ut C [sD s]=.ok (.lst false ((shR s).map .str)):=by
 have hl:=h.m
 have e1:=kj (C:=C) h.screen
 have e2:fM (fun _=>R.ok true) (lU "str" dM (rvz 0) (aa (csz [32]) nlz)) (s.2.1.map .str) [none]=.ok ((shR s).map .str):=by
  have:=iW (gt:=fun _=>R.ok true) (ge:=lU "str" dM (rvz 0) (aa (csz [32]) nlz)) (fun d=>match d with|.str x=>.str (bf x [32])|d=>d) [] (s.2.1.map .str) none (fun d hd=>by
   obtain ⟨x,_,rfl⟩:=List.mem_map.1 hd
   exact ⟨rfl,rfl⟩)
  rw [this];unfold shR;rw [List.map_map,List.map_map];rfl
 have e3:bU (.tup (s.2.1.map .str))=.ok (s.2.1.map .str):=rfl
 have e4:ixD (sD s) (.int 1)=some (.tup (s.2.1.map .str)):=rfl
 have e5:((shR s).map D.str).length<=sizeLine:=by
  have h3:1000<=sizeLine:=by decide
  unfold shR;rw [List.length_map,List.length_map];omega
 have e6:hU [] [vD (sD s)]=[none]:=rfl
 show az (aH _ _ [vD (sD s)])=_
 clear hl h
 walk_at "run"
theorem Bu {c:Nat}:∀ x:List Nat,x.takeWhile (fun d=>[c].contains d)=List.replicate (x.takeWhile (fun d=>[c].contains d)).length c
 | []=>rfl
 | d::x=>by
  rw [List.takeWhile_cons]
  split
  ·rename_i h
   have e:d=c:=by simpa using h
   rw [List.length_cons,List.replicate_succ,e,<- Bu x]
  ·rfl
theorem si (x:List Nat):x=bf x [32]++List.replicate (x.length - (bf x [32]).length) 32:=by
 have h1:=List.takeWhile_append_dropWhile (p:=fun d=>[32].contains d) (l:=x.reverse)
 have h2:=Bu (c:=32) x.reverse
 have h3:x=(x.reverse.dropWhile fun d=>[32].contains d).reverse++(x.reverse.takeWhile fun d=>[32].contains d).reverse:=by
  rw [<- List.reverse_append,h1,List.reverse_reverse]
 rw [gP]
 have h4:(x.reverse.takeWhile fun d=>[32].contains d).reverse=List.replicate (x.length - (x.reverse.dropWhile fun d=>[32].contains d).reverse.length) 32:=by
  have h5:=congrArg List.length h3
  rw [List.length_append,List.length_reverse (as:=List.takeWhile _ _)] at h5
  rw [h2,List.reverse_replicate]
  congr 1
  omega
 rw [<- h4]
 exact h3
theorem xW {x:List Nat} {wd:Nat} (h:x.length=wd):yc wd (bf x [32])=x:=by
 subst h
 exact (si x).symm
theorem mL {s:St} (h:GS s):au s.2.1.length s.1 (shR s)=s.2.1:=by
 unfold au shR
 rw [List.length_map,Nat.sub_self,List.replicate_zero,List.append_nil,List.map_map]
 conv=>rhs;rw [<- List.map_id s.2.1]
 exact List.map_congr_left fun x hx=>xW (h.l x hx).1
theorem lS {s:St} (h:GS s):bi s.2.1.length s.1 (shR s)=true:=by
 unfold bi shR
 rw [List.length_map,decide_eq_true (Nat.le_refl _),Bool.true_and,List.all_eq_true]
 intro x hx
 obtain ⟨y,hy,rfl⟩:=List.mem_map.1 hx
 obtain ⟨h1,h2⟩:=pF (h.l y hy).2 (Nat.le_of_eq (h.l y hy).1)
 unfold txt
 simp [h1,h2]
theorem wC {ns:List Int} {a:Nat} {s:St} (h:GS s):bi s.2.1.length s.1 (rN ns a s.1 (s.2.1.map .str))=true:=by
 have hr:tJ (s.2.1.map D.str) s.1:=fun r hr=>by
  obtain ⟨x,hx,rfl⟩:=List.mem_map.1 hr
  exact ⟨x,rfl,h.l x hx⟩
 have h1:=tZ ns a h.w1 (s.2.1.map .str) 0 hr
 have h2:=gz ns a s.1 (s.2.1.map .str) 0
 unfold bi rN
 rw [Bool.and_eq_true,decide_eq_true_eq,List.all_eq_true]
 refine ⟨?_,fun x hx=>?_⟩
 ·rw [List.length_take,h2,List.length_map];omega
 ·have:=h1 x (List.mem_of_mem_take hx)
  unfold txt;rw [this.1,decide_eq_true this.2];rfl
section
variable {g g1 g2 s1 s2:Ev->O} {gt:Ev->R Bool} {ρ':Ev}
theorem B6 {ga:Ev->R D} (h:ga ρ=.ok d) (hb:gb ρ=.ok d) (hc:cl 10 d=true):gB2 neF ga gb ρ=.ok false:=by
 unfold gB2 L2.g2;rw [h,hb]
 show (ofO (neF d d))>>=asB=_
 rw [yJ hc];rfl
theorem Ce (h:gt ρ=.ok false):oIf gt s1 s2 ρ=s2 ρ:=by unfold oIf;rw [h];rfl
theorem FH {gu:Ev->R Bool} (h:gt ρ=.ok false):qV gt gu ρ=gu ρ:=by unfold qV;rw [h];rfl
theorem uB {b:Bool} {fs:List (Nat×Fd)} (h:ρ[i]?=some (some (.obj b C p fs))) (e:F fs []=.rd d):dF C i F ρ=.ok d:=by
 unfold dF;rw [iA h]
 show (F fs []).read=_
 rw [e];rfl
end
structure SpOk (l:List (Nat×Nat)) (j:Nat):Prop where
 e:∀ q∈l,1<=q.2/\q.1+q.2<=j
theorem qk (f:Nat->List Od):∀ l:List Nat,((l.flatMap f).map bv).sum=(l.map fun i=>((f i).map bv).sum).sum
 | []=>rfl
 | i::l=>by rw [List.flatMap_cons,List.map_append,List.sum_append,qk f l];simp
theorem rz (e:Nat->Nat) (r:Nat):∀ n,((List.range n).map fun i=>if i=r then 0 else e i).sum+(if r<n then e r else 0)=((List.range n).map e).sum
 | 0=>rfl
 | n+1=>by
  have ih:=rz e r n
  rw [List.range_succ,List.map_append,List.map_append,List.sum_append,List.sum_append]
  simp only [List.map_cons,List.map_nil,List.sum_cons,List.sum_nil]
  by_cases a:n=r
  ·subst a;rw [if_pos rfl,if_pos (by omega)];rw [if_neg (by omega)] at ih;omega
  ·rw [if_neg a]
   by_cases b:r<n
   ·rw [if_pos (by omega)];rw [if_pos b] at ih;omega
   ·rw [if_neg (by omega)];rw [if_neg b] at ih;omega
noncomputable def cnt (f:Nat->Bool) (b k:Nat):Nat:=((List.range' b k).filter f).length
noncomputable def b1 (b:Bool):Nat:=if b then 1 else 0
theorem fB (f:Nat->Bool) (b k:Nat):cnt f b (k+1)=cnt f b k+b1 (f (b+k)):=by
 unfold cnt b1
 rw [List.range'_1_concat,List.filter_append,List.length_append]
 cases e:f (b+k) <;> simp [List.filter_cons,e]
theorem ky (f:Nat->Bool) (a k:Nat):cnt f 0 (a+k)=cnt f 0 a+cnt f a k:=by
 induction k with
 | zero=>simp [cnt]
 | succ k ih=>rw [<- Nat.add_assoc,fB,fB,ih,Nat.zero_add];omega
theorem xk {f g:Nat->Bool} {c:Nat} (h:∀ j,j≠c->g j=f j) (b:Nat):∀ k,cnt g b k<=cnt f b k+(if b<=c/\c<b+k then 1 else 0)
 | 0=>by simp [cnt]
 | k+1=>by
  have ih:=xk h b k
  rw [fB,fB]
  by_cases z:b+k=c
  ·rw [if_neg (by omega)] at ih
   rw [if_pos (by omega)]
   have:b1 (g (b+k))<=1:=by unfold b1;split <;> omega
   omega
  ·rw [h _ z]
   by_cases y:b<=c/\c<b+k
   ·rw [if_pos y] at ih;rw [if_pos (by omega)];omega
   ·rw [if_neg y] at ih;rw [if_neg (by omega)];omega
section
variable {m:Mp} {h w:Bool} {v n c:Nat}
theorem sj (H:Has m (h,w) v):Has (dC m n c) (h,w) v:=H.keep.keep.keep
theorem FZ (H:Has m (false,w) v):Has (dC m n c) (true,w) (v+2):=by
 cases w with
 | false=>exact H.move.keep.keep
 | true=>exact H.keep.keep.move
theorem CA (H:Has m (true,false) v):Has (dC m n c) (true,true) (v+1):=H.keep.move.keep
theorem Ew (H:Has m (false,false) v):Has (dC m n c) (true,true) (v+3):=by
 have:Has (dC m n c) (true,true) (v+2+1):=H.move.move.keep
 exact this
theorem BT {g p:Bool} (H:Has m (h,w) v) (a:h=true\/g=true):Has (dC m n c) (true,w || p) (v+2 * b1 g+b1 p):=by
 cases h with
 | true=>
  cases p with
  | false=>rw [Bool.or_false];exact (sj H).mono (by omega)
  | true=>
   cases w with
   | true=>exact (sj H).mono (by omega)
   | false=>exact (CA H).mono (by show v+1<=v+_+1;omega)
 | false=>
  have e:g=true:=a.resolve_left (fun z=>by cases z)
  subst e
  cases p with
  | false=>rw [Bool.or_false];exact (FZ H).mono (by show v+2<=v+2 * 1+_;omega)
  | true=>
   cases w with
   | true=>exact (FZ H).mono (by show v+2<=v+2 * 1+1;omega)
   | false=>exact (Ew H).mono (by show v+3<=v+2 * 1+1;omega)
theorem AF {new:List Nat} {s g p:Bool} (H:Has m (h,w) v) (a:s=true\/p=true->h=true\/g=true) (e:s=false->und (old.getD c 0) (w || p)=new.getD c 0):Has (rR n old new m c) (s,w || p) (v+b1 s+2 * b1 g+b1 p):=by
 unfold rR
 cases s with
 | true=>exact (BT (g:=g) (p:=p) H (a (.inl rfl))).say.mono (by show v+2 * b1 g+b1 p+1<=v+1+2 * b1 g+b1 p;omega)
 | false=>
  cases p with
  | true=>exact ((BT (g:=g) (p:=true) H (a (.inr rfl))).leave (e rfl)).mono (by show v+2 * b1 g+1<=v+0+2 * b1 g+1;omega)
  | false=>
   have e1:=e rfl
   rw [Bool.or_false] at e1 ⊢
   exact ((sj H).leave e1).mono (by omega)
end
noncomputable def wb (wp:Nat->Bool) (j:Nat):Bool:=(List.range j).any wp
theorem xL (wp:Nat->Bool) (j:Nat):wb wp (j+1)=(wb wp j || wp j):=by
 unfold wb;rw [List.range_succ,List.any_append,List.any_cons,List.any_nil,Bool.or_false]
theorem um (n:Nat) {old new:List Nat} {sd gn wp:Nat->Bool} {b:Nat} {h0:Bool} (hw:wb wp b=false):∀ k,(∀ j,b<=j->j<b+k->sd j=false->und (old.getD j 0) (wb wp (j+1))=new.getD j 0)->(∀ j,b<=j->j<b+k->sd j=true\/wp j=true->(j=b/\h0=true)\/gn j=true\/(b<j/\sd (j - 1)=true))->
  Has ((List.range' b k).foldl (rR n old new) (m0 (h0,false))) ((if k=0 then h0 else sd (b+k - 1)),wb wp (b+k)) (cnt sd b k+2 * cnt gn b k+cnt wp b k)
 | 0,_,_=>by
  rw [if_pos rfl,Nat.add_zero,hw]
  exact (E3 (h0,false)).mono (Nat.zero_le _)
 | k+1,p1,p2=>by
  have ih:=um n (old:=old) (new:=new) (sd:=sd) (gn:=gn) (h0:=h0) hw k (fun j a b=>p1 j a (by omega)) (fun j a b=>p2 j a (by omega))
  rw [List.range'_1_concat,List.foldl_append,List.foldl_cons,List.foldl_nil,if_neg (Nat.succ_ne_zero k),show b+(k+1)=b+k+1 from rfl,Nat.add_sub_cancel,xL,fB,fB,fB]
  refine (AF (s:=sd (b+k)) (g:=gn (b+k)) (p:=wp (b+k)) ih ?_ ?_).mono (by omega)
  ·intro q
   rcases p2 (b+k) (by omega) (by omega) q with ⟨z,z2⟩|z|⟨z,z2⟩
   ·have:k=0:=by omega
    rw [if_pos this];exact .inl z2
   ·exact .inr z
   ·rw [if_neg (by omega)];exact .inl z2
  ·intro q
   have:=p1 (b+k) (by omega) (by omega) q
   rw [xL] at this;exact this
theorem A5 (n:Nat) {new:List Nat} {sd gn wp:Nat->Bool} (p1:∀ j,j<old.length->sd j=false->und (old.getD j 0) (wb wp (j+1))=new.getD j 0) (p2:∀ j,sd j=true\/wp j=true->gn j=true\/(0<j/\sd (j - 1)=true)) :
  (cY n old new).1<=cnt sd 0 old.length+2 * cnt gn 0 old.length+cnt wp 0 old.length:=by
 have:=um n (old:=old) (new:=new) (sd:=sd) (gn:=gn) (wp:=wp) (b:=0) (h0:=false) rfl old.length (fun j _ h=>p1 j (by omega)) (fun j _ _ q=>.inr (p2 j q))
 exact fo (k:=((if old.length=0 then false else sd (0+old.length - 1)),wb wp (0+old.length))) (by
  generalize (if old.length=0 then false else sd (0+old.length - 1))=x
  generalize wb wp (0+old.length)=y
  revert x y;decide) this
theorem gQ {x:List Nat} {c:Nat} (h:j<c):(x.take c).getD j 0=x.getD j 0:=by
 rw [List.getD_eq_getElem?_getD,List.getElem?_take,if_pos h,List.getD_eq_getElem?_getD]
theorem xv (n:Nat) {new:List Nat} {sd gn wp:Nat->Bool} {c:Nat} (hc:c<=old.length) (p1:∀ j,j<old.length->sd j=false->und (old.getD j 0) (wb wp (j+1))=new.getD j 0) (p2:∀ j,sd j=true\/wp j=true->gn j=true\/(0<j/\sd (j - 1)=true)\/j=c) (lo:∀ w,w<c->wp w=false) :
  (cQ n old new c).1<=cnt sd 0 old.length+2 * cnt gn 0 old.length+cnt wp 0 old.length:=by
 have hw:∀ j,j<=c->wb wp j=false:=fun j hj=>by
  unfold wb
  rw [List.any_eq_false]
  intro w hw
  rw [lo w (by have:=List.mem_range.1 hw;omega)];decide
 have r:=um n (old:=old) (new:=new) (sd:=sd) (gn:=gn) (wp:=wp) (b:=c) (h0:=true) (hw c (Nat.le_refl _)) (old.length - c) (fun j _ h=>p1 j (by omega)) (fun j a _ q=>by
  rcases p2 j q with z|z|z
  ·exact .inr (.inl z)
  ·by_cases y:j=c
   ·exact .inl ⟨y,rfl⟩
   ·exact .inr (.inr ⟨by omega,z.2⟩)
  ·exact .inl ⟨z,rfl⟩)
 have r1:(ef n old new c).1<=_:=fo (k:=((if old.length - c=0 then true else sd (c+(old.length - c) - 1)),wb wp (c+(old.length - c)))) (by
  generalize (if old.length - c=0 then true else sd (c+(old.length - c) - 1))=x
  generalize wb wp (c+(old.length - c))=y
  revert x y;decide) r
 have lt:(old.take c).length=c:=by rw [List.length_take];omega
 have l:=um n (old:=old.take c) (new:=new.take c) (sd:=sd) (gn:=gn) (wp:=wp) (b:=0) (h0:=false) rfl c (fun j _ h q=>by
   rw [gQ (by omega),gQ (by omega)];exact p1 j (by omega) q) (fun j _ h q=>by
  rcases p2 j q with z|z|z
  ·exact .inr (.inl z)
  ·exact .inr (.inr z)
  ·omega)
 rw [Nat.zero_add,hw c (Nat.le_refl _)] at l
 have l1:(iK n old new c).1<=_:=fo (m:=dZ n (old.take c) (new.take c) 0 (m0 (false,false))) (k:=((if c=0 then false else sd (c - 1)),false)) (by
  generalize (if c=0 then false else sd (c - 1))=x
  revert x;decide) (by unfold dZ;rw [lt,Nat.sub_zero];exact l)
 have s1:=ky sd c (old.length - c)
 have s2:=ky gn c (old.length - c)
 have s3:=ky wp c (old.length - c)
 rw [show c+(old.length - c)=old.length by omega] at s1 s2 s3
 show (ef n old new c).1+(iK n old new c).1<=_
 omega
structure Fl where
 sd:Nat->Nat->Bool
 gn:Nat->Nat->Bool
 wp:Nat->Nat->Bool
noncomputable def jm (f:Nat->Nat->Bool) (r c n:Nat):Nat->Nat->Bool:=fun i j=>(i==r && (decide (c<=j) && decide (j<c+n))) || f i j
theorem nY {f:Nat->Nat->Bool} {r c n:Nat} (h:i≠r) (j:Nat):jm f r c n i j=f i j:=by
 unfold jm;rw [beq_eq_false_iff_ne.2 h];rfl
theorem gR {f:Nat->Nat->Bool} {r c n:Nat} (h:f i j=true):jm f r c n i j=true:=by
 unfold jm;rw [h,Bool.or_true]
theorem fH {f:Nat->Nat->Bool} {r c n:Nat} (h1:c<=j) (h2:j<c+n):jm f r c n r j=true:=by
 unfold jm;rw [beq_self_eq_true,decide_eq_true h1,decide_eq_true h2];rfl
theorem oT {f:Nat->Nat->Bool} {r c n:Nat} (h:jm f r c n i j=true):(i=r/\c<=j/\j<c+n)\/f i j=true:=by
 unfold jm at h
 simp only [Bool.or_eq_true,Bool.and_eq_true,beq_iff_eq,decide_eq_true_eq] at h
 exact h
theorem Eh {f:Nat->Nat->Bool} {r c n:Nat} (h:jm f r c n i j=false) : ¬ (i=r/\c<=j/\j<c+n)/\f i j=false:=by
 constructor
 ·rintro ⟨rfl,a,b⟩;rw [fH a b] at h;cases h
 ·cases e:f i j with
  | false=>rfl
  | true=>rw [gR e] at h;cases h
theorem mZ (f:Nat->Nat->Bool) (r c k:Nat):∀ n,cnt (jm f r c n r) 0 k<=cnt (f r) 0 k+n
 | 0=>by
  have:jm f r c 0 r=f r:=funext fun j=>by
   unfold jm
   by_cases h:c<=j
   ·rw [decide_eq_false (show ¬ j<c+0 by omega)];simp
   ·rw [decide_eq_false h];simp
  rw [this];exact Nat.le_refl _
 | n+1=>by
  have ih:=mZ f r c k n
  have:=xk (f:=jm f r c n r) (g:=jm f r c (n+1) r) (c:=c+n) (fun j hj=>by
   unfold jm
   congr 2
   by_cases h:c<=j
   ·by_cases h2:j<c+n
    ·rw [decide_eq_true h2,decide_eq_true (show j<c+(n+1) by omega)]
    ·rw [decide_eq_false h2,decide_eq_false (show ¬ j<c+(n+1) by omega)]
   ·rw [decide_eq_false h];rfl) 0 k
  have z:(if 0<=c+n/\c+n<0+k then 1 else 0)<=1:=by split <;> omega
  omega
noncomputable def flS (s:St) (o:Od) (f:Fl):Fl:=match o with
 | .say x=>{ f with sd:=jm f.sd s.2.2.1 s.2.2.2 x.length }
 | .go n k=>{ f with gn:=jm f.gn n k 1 }
 | .wipe=>{ f with wp:=jm f.wp s.2.2.1 s.2.2.2 1 }
noncomputable def qa (wd:Nat) (f:Fl) (i:Nat):Nat:=cnt (f.sd i) 0 wd+2 * cnt (f.gn i) 0 wd+cnt (f.wp i) 0 wd
noncomputable def wg (m wd:Nat) (f:Fl):Nat:=((List.range m).map (qa wd f)).sum
theorem BU {g h:Nat->Nat} {r d:Nat} (e:∀ i,i≠r->g i=h i) (l:g r<=h r+d):∀ m,((List.range m).map g).sum<=((List.range m).map h).sum+(if r<m then d else 0)
 | 0=>by simp
 | m+1=>by
  have ih:=BU e l m
  rw [List.range_succ,List.map_append,List.map_append,List.sum_append,List.sum_append]
  simp only [List.map_cons,List.map_nil,List.sum_cons,List.sum_nil]
  by_cases z:m=r
  ·subst z;rw [if_neg (by omega)] at ih;rw [if_pos (by omega)];omega
  ·rw [e m z]
   by_cases y:r<m
   ·rw [if_pos y] at ih;rw [if_pos (by omega)];omega
   ·rw [if_neg y] at ih;rw [if_neg (by omega)];omega
theorem nC (m wd:Nat) (s:St) (o:Od) (f:Fl):wg m wd (flS s o f)<=wg m wd f+bv o:=by
 have key:∀ r,(∀ i,i≠r->qa wd (flS s o f) i=qa wd f i)->qa wd (flS s o f) r<=qa wd f r+bv o->wg m wd (flS s o f)<=wg m wd f+bv o:=fun r a b=>by
  have:=BU a b m
  have z:(if r<m then bv o else 0)<=bv o:=by split <;> omega
  unfold wg;omega
 cases o with
 | say x=>
  refine key s.2.2.1 (fun i hi=>?_) ?_
  ·unfold qa;rw [show (flS s (.say x) f).sd i=f.sd i from funext fun j=>nY hi j];rfl
  ·have:=mZ f.sd s.2.2.1 s.2.2.2 wd x.length
   show cnt (jm f.sd s.2.2.1 s.2.2.2 x.length s.2.2.1) 0 wd+_+_<=_+x.length
   unfold qa;show _+2 * cnt (f.gn _) 0 wd+cnt (f.wp _) 0 wd<=_;omega
 | go n k=>
  refine key n (fun i hi=>?_) ?_
  ·unfold qa;rw [show (flS s (.go n k) f).gn i=f.gn i from funext fun j=>nY hi j];rfl
  ·have:=mZ f.gn n k wd 1
   show _+2 * cnt (jm f.gn n k 1 n) 0 wd+_<=_+2
   unfold qa;show cnt (f.sd _) 0 wd+_+cnt (f.wp _) 0 wd<=_;omega
 | wipe=>
  refine key s.2.2.1 (fun i hi=>?_) ?_
  ·unfold qa;rw [show (flS s .wipe f).wp i=f.wp i from funext fun j=>nY hi j];rfl
  ·have:=mZ f.wp s.2.2.1 s.2.2.2 wd 1
   show _+_+cnt (jm f.wp s.2.2.1 s.2.2.2 1 s.2.2.1) 0 wd<=_+1
   unfold qa;show cnt (f.sd _) 0 wd+2 * cnt (f.gn _) 0 wd+_<=_;omega
structure Iv (s0:St) (b:Bool) (f:Fl) (s:St):Prop where
 wd:s.1=s0.1
 m:s.2.1.length=s0.2.1.length
 row:∀ i j,i<s0.2.1.length->j<s0.1->f.sd i j=false->(s.2.1.getD i []).getD j 0=und ((s0.2.1.getD i []).getD j 0) (wb (f.wp i) (j+1))
 at':∀ i j,f.sd i j=true\/f.wp i j=true->f.gn i j=true\/(0<j/\f.sd i (j - 1)=true)\/(b=true/\i=s0.2.2.1/\j=s0.2.2.2)
 pl:f.gn s.2.2.1 s.2.2.2=true\/(0<s.2.2.2/\f.sd s.2.2.1 (s.2.2.2 - 1)=true)\/(b=true/\s.2.2.1=s0.2.2.1/\s.2.2.2=s0.2.2.2)
theorem wz {f:Nat->Nat->Bool} {r c:Nat} (h:i≠r) (j:Nat):wb (jm f r c 1 i) j=wb (f i) j:=by
 rw [show jm f r c 1 i=f i from funext fun k=>nY h k]
theorem xp {f:Nat->Bool} {c:Nat} (h:f c=true) (hc:c<j):wb f j=true:=by
 unfold wb;rw [List.any_eq_true];exact ⟨c,List.mem_range.2 hc,h⟩
theorem yR {f:Nat->Nat->Bool} {r c:Nat} (h:j<=c):wb (jm f r c 1 r) j=wb (f r) j:=by
 unfold wb
 rw [Bool.eq_iff_iff,List.any_eq_true,List.any_eq_true]
 constructor
 ·rintro ⟨k,hk,e⟩
  refine ⟨k,hk,?_⟩
  rcases oT e with z|z
  ·have:=List.mem_range.1 hk;omega
  ·exact z
 ·rintro ⟨k,hk,e⟩
  exact ⟨k,hk,gR e⟩
theorem dQ {rows:List (List Nat)} {r:Nat} {x:List Nat}:(rows.set r x).getD i []=if i=r/\r<rows.length then x else rows.getD i []:=by
 rw [List.getD_eq_getElem?_getD,List.getD_eq_getElem?_getD,List.getElem?_set]
 by_cases h:r=i
 ·subst h
  rw [if_pos rfl]
  by_cases h2:r<rows.length
  ·rw [if_pos h2,if_pos ⟨rfl,h2⟩];rfl
  ·rw [if_neg h2,if_neg (by omega),List.getElem?_eq_none (by omega)]
 ·rw [if_neg h,if_neg (by omega)]
theorem Iv.step {s0 s s':St} {b:Bool} {f:Fl} {o:Od} (v:Iv s0 b f s) (h:GS s) (ho:okO o=true) (e:bA s o=some s'):Iv s0 b (flS s o f) s':=by
 obtain ⟨wd,rows,r,c⟩:=s
 have hr:r<rows.length:=h.r
 have hc:c<=wd:=h.c
 have hl:(rows.getD r []).length=wd:=(h.l _ (gW hr)).1
 obtain ⟨v1,v2,v3,v4,v5⟩:=v
 dsimp only at v1 v2 v3 v5
 cases o with
 | say x=>
  simp only [okO,Bool.and_eq_true,decide_eq_true_eq] at ho
  simp only [bA] at e
  split at e
  ·cases e
  ·rename_i hn
   cases e
   refine ⟨v1,by rw [<- v2];simp,fun i j hi hj q=>?_,fun i j q=>?_,?_⟩
   ·obtain ⟨q1,q2⟩:=Eh q
    dsimp only at q1
    show ((rows.set r _).getD i []).getD j 0=und ((s0.2.1.getD i []).getD j 0) (wb (f.wp i) (j+1))
    rw [<- v3 i j hi hj q2,dQ]
    split
    ·rename_i z
     rw [z.1]
     generalize rows.getD r []=row at *
     rw [List.getD_eq_getElem?_getD,List.getD_eq_getElem?_getD]
     congr 1
     by_cases a:j<c
     ·rw [List.append_assoc,List.getElem?_append_left (by rw [List.length_take];omega),List.getElem?_take,if_pos a]
     ·rw [List.getElem?_append_right (by rw [List.length_append,List.length_take];omega),List.getElem?_drop]
      congr 1
      rw [List.length_append,List.length_take];omega
    ·rfl
   ·show f.gn i j=true\/(0<j/\jm f.sd r c x.length i (j - 1)=true)\/_
    have old:f.sd i j=true\/f.wp i j=true->f.gn i j=true\/(0<j/\jm f.sd r c x.length i (j - 1)=true)\/(b=true/\i=s0.2.2.1/\j=s0.2.2.2):=fun z=>(v4 i j z).imp id (fun z=>z.imp (fun z=>⟨z.1,gR z.2⟩) id)
    rcases q with q|q
    ·rcases oT q with ⟨rfl,a1,a2⟩|q
     ·by_cases y:j=c
      ·subst y
       exact v5.imp id (fun z=>z.imp (fun z=>⟨z.1,gR z.2⟩) id)
      ·exact .inr (.inl ⟨by dsimp only at a1;omega,fH (by dsimp only at a1 ⊢;omega) (by dsimp only at a2 ⊢;omega)⟩)
     ·exact old (.inl q)
    ·exact old (.inr q)
   ·exact .inr (.inl ⟨by dsimp only;omega,fH (by dsimp only;omega) (by dsimp only;omega)⟩)
 | go n k=>
  simp only [bA] at e
  split at e
  ·cases e
  ·cases e
   exact ⟨v1,v2,v3,fun i j q=>(v4 i j q).imp gR id,.inl (fH (Nat.le_refl _) (by dsimp only;omega))⟩
 | wipe=>
  simp only [bA] at e
  cases e
  refine ⟨v1,by rw [<- v2];simp,fun i j hi hj q=>?_,fun i j q=>?_,v5⟩
  ·show ((rows.set r _).getD i []).getD j 0=und _ (wb (jm f.wp r c 1 i) (j+1))
   by_cases y:i=r
   ·subst y
    rw [dQ,if_pos ⟨rfl,hr⟩]
    have v:=v3 i j hi hj q
    generalize rows.getD i []=row at *
    by_cases a:j<c
    ·rw [yR (by omega),<- v,List.getD_eq_getElem?_getD,List.getD_eq_getElem?_getD,List.getElem?_append_left (by rw [List.length_take];omega),List.getElem?_take,if_pos a]
    ·rw [xp (fH (Nat.le_refl c) (by omega)) (by omega),List.getD_eq_getElem?_getD,List.getElem?_append_right (by rw [List.length_take];omega),List.getElem?_replicate,if_pos (by rw [List.length_take];omega)];rfl
   ·rw [wz y,dQ,if_neg (by omega)];exact v3 i j hi hj q
  ·rcases q with q|q
   ·exact v4 i j (.inl q)
   ·rcases oT q with ⟨rfl,a1,a2⟩|q
    ·have:j=c:=by dsimp only at a1 a2;omega
     subst this;exact v5
    ·exact v4 i j (.inr q)
theorem Iv.run (m wd:Nat):∀ (os:List Od) {s0 s s':St} {b:Bool} {f:Fl},Iv s0 b f s->GS s->(∀ o∈os,okO o=true)->rn (some s) os=some s'->
  ∃ f',Iv s0 b f' s'/\wg m wd f'<=wg m wd f+(os.map bv).sum/\(∀ i j,f.wp i j=true->f'.wp i j=true)/\
   (∀ r0 c0,(∀ a q t,os=a++.wipe::q->rn (some s) a=some t->¬ (t.2.2.1=r0/\t.2.2.2<c0))->(∀ w,w<c0->f.wp r0 w=false)->∀ w,w<c0->f'.wp r0 w=false)
 | [],s0,s,s',b,f,v,_,_,e=>⟨f,by cases e;exact v,by simp,fun _ _ h=>h,fun _ _ _ h=>h⟩
 | o::os,s0,s,s',b,f,v,h,ho,e=>by
  have h1:=ho o (List.mem_cons_self ..)
  rw [jv] at e
  cases z:bA s o with
  | none=>rw [show ((some s).bind fun s=>bA s o)=none from z,fX] at e;cases e
  | some t=>
   rw [show ((some s).bind fun s=>bA s o)=some t from z] at e
   obtain ⟨f',v',c',w',l'⟩:=Iv.run m wd os (v.step h h1 z) (lf h h1 z) (fun o ho'=>ho o (List.mem_cons_of_mem _ ho')) e
   have c1:=nC m wd s o f
   refine ⟨f',v',by rw [List.map_cons,List.sum_cons];omega,fun i j q=>w' i j ?_,fun r0 c0 H lo=>l' r0 c0 (fun a q u e1 e2=>H (o::a) q u (by rw [e1];rfl) (by rw [jv,show ((some s).bind fun s=>bA s o)=some t from z];exact e2)) fun w hw=>?_⟩
   ·cases o with
    | wipe=>exact gR q
    | _=>exact q
   ·cases o with
    | wipe=>
     cases y:(flS s .wipe f).wp r0 w with
     | false=>rfl
     | true=>
      rcases oT y with y|y
      ·exact absurd ⟨y.1.symm,by omega⟩ (H [] os s rfl rfl)
      ·rw [lo w hw] at y;cases y
    | _=>exact lo w hw
noncomputable def flN:Fl:=⟨fun _ _=>false,fun _ _=>false,fun _ _=>false⟩
theorem wb0 (j:Nat):wb (fun _=>false) j=false:=by
 unfold wb;rw [List.any_eq_false];intro _ _ h;cases h
theorem iv0 (s:St):Iv s true flN s:=⟨rfl,rfl,fun i j _ _ _=>by show _=und _ (wb (fun _=>false) _);rw [wb0];rfl,fun i j q=>(by rcases q with q|q <;> cases q),.inr (.inr ⟨rfl,rfl,rfl⟩)⟩
theorem Kp (m wd:Nat):wg m wd flN=0:=by
 have c0:cnt (fun _=>false) 0 wd=0:=by simp [cnt]
 have:∀ i,qa wd flN i=0:=fun i=>by show cnt (fun _=>false) 0 wd+2 * cnt (fun _=>false) 0 wd+cnt (fun _=>false) 0 wd=0;omega
 unfold wg
 induction m with
 | zero=>rfl
 | succ m ih=>rw [List.range_succ,List.map_append,List.sum_append,ih];simp [this]
structure Bh (r0 c0:Nat) (R:List (List Nat)) (s:St):Prop where
 r:s.2.2.1=r0
 c:c0<=s.2.2.2
 o:∀ i,i≠r0->s.2.1.getD i []=R.getD i []
 l:∀ j,j<c0->(s.2.1.getD r0 []).getD j 0=(R.getD r0 []).getD j 0
noncomputable def GD:Od->Bool
 | .go _ _=>true
 | _=>false
theorem Bh.step {r0 c0:Nat} {R:List (List Nat)} {s s':St} {o:Od} (v:Bh r0 c0 R s) (h:GS s) (hg:GD o=false) (e:bA s o=some s'):Bh r0 c0 R s':=by
 obtain ⟨wd,rows,r,c⟩:=s
 have hr:r<rows.length:=h.r
 have hl:(rows.getD r []).length=wd:=(h.l _ (gW hr)).1
 have hc:c<=wd:=h.c
 obtain ⟨v1,v2,v3,v4⟩:=v
 dsimp only at v1 v2 v3 v4
 subst v1
 cases o with
 | go n k=>cases hg
 | say x=>
  simp only [bA] at e
  split at e
  ·cases e
  ·cases e
   refine ⟨rfl,by dsimp only;omega,fun i hi=>by rw [<- v3 i hi];show (rows.set r _).getD i []=_;rw [dQ,if_neg (by omega)],fun j hj=>?_⟩
   rw [<- v4 j hj]
   show ((rows.set r _).getD r []).getD j 0=_
   rw [dQ,if_pos ⟨rfl,hr⟩]
   generalize rows.getD r []=row at *
   rw [List.getD_eq_getElem?_getD,List.getD_eq_getElem?_getD,List.append_assoc,List.getElem?_append_left (by rw [List.length_take];omega),List.getElem?_take,if_pos (by omega)]
 | wipe=>
  simp only [bA] at e
  cases e
  refine ⟨rfl,v2,fun i hi=>by rw [<- v3 i hi];show (rows.set r _).getD i []=_;rw [dQ,if_neg (by omega)],fun j hj=>?_⟩
  rw [<- v4 j hj]
  show ((rows.set r _).getD r []).getD j 0=_
  rw [dQ,if_pos ⟨rfl,hr⟩]
  generalize rows.getD r []=row at *
  rw [List.getD_eq_getElem?_getD,List.getD_eq_getElem?_getD,List.getElem?_append_left (by rw [List.length_take];omega),List.getElem?_take,if_pos (by omega)]
theorem uH {r0 c0:Nat} {R:List (List Nat)}:∀ (os:List Od) {s t:St},Bh r0 c0 R s->GS s->(∀ o∈os,okO o=true)->rn (some s) os=some t->
  Bh r0 c0 R t\/∃ p n k q s1 s2,os=p++.go n k::q/\GS s1/\Bh r0 c0 R s1/\bA s1 (.go n k)=some s2/\rn (some s2) q=some t/\s1.1=s.1/\s1.2.1.length=s.2.1.length/\okO (.go n k)=true
 | [],s,t,v,_,_,e=>by cases e;exact .inl v
 | o::os,s,t,v,h,ho,e=>by
  have h1:=ho o (List.mem_cons_self ..)
  rw [jv] at e
  cases z:bA s o with
  | none=>rw [show ((some s).bind fun s=>bA s o)=none from z,fX] at e;cases e
  | some u=>
   rw [show ((some s).bind fun s=>bA s o)=some u from z] at e
   cases g:GD o with
   | true=>
    cases o with
    | go n k=>exact .inr ⟨[],n,k,os,s,u,rfl,h,v,z,e,rfl,rfl,h1⟩
    | say x=>cases g
    | wipe=>cases g
   | false=>
    rcases uH os (v.step h g z) (lf h h1 z) (fun o ho'=>ho o (List.mem_cons_of_mem _ ho')) e with w|⟨p,n,k,q,s1,s2,e1,e2,e3,e4,e5,e6,e7,e8⟩
    ·exact .inl w
    ·refine .inr ⟨o::p,n,k,q,s1,s2,by rw [e1];rfl,e2,e3,e4,e5,?_,?_,e8⟩
     ·have:=(Iv.step (iv0 s) h h1 z).wd;rw [e6];exact this
     ·have:=(Iv.step (iv0 s) h h1 z).m;rw [e7];exact this
section
variable {s s0 s':St} {g:List (List Nat)} {f:Fl}
theorem BF (i:Nat) (hi:i<s.2.1.length) (h:GS s) (p1:∀ j,j<s.1->f.sd i j=false->(g.getD i []).getD j 0=und ((s.2.1.getD i []).getD j 0) (wb (f.wp i) (j+1))) (p2:∀ j,f.sd i j=true\/f.wp i j=true->f.gn i j=true\/(0<j/\f.sd i (j - 1)=true)) :
  (cY i (s.2.1.getD i []) (g.getD i [])).1<=qa s.1 f i:=by
 have e:=(bz h hi).1
 have:=A5 i (old:=s.2.1.getD i []) (new:=g.getD i []) (sd:=f.sd i) (gn:=f.gn i) (wp:=f.wp i) (fun j hj q=>(p1 j (by omega) q).symm) p2
 rw [e] at this;exact this
theorem sK {a b:Nat->Nat}:∀ m,(∀ i,i<m->a i<=b i)->((List.range m).map a).sum<=((List.range m).map b).sum
 | 0,_=>Nat.le_refl _
 | m+1,h=>by
  have ih:=sK m fun i hi=>h i (by omega)
  have:=h m (by omega)
  rw [List.range_succ,List.map_append,List.map_append,List.sum_append,List.sum_append]
  simp only [List.map_cons,List.map_nil,List.sum_cons,List.sum_nil];omega
theorem rK (h:GS s) (hg:GL s g):((bW s g).map bv).sum=(mz s.2.2.1 (s.2.1.getD s.2.2.1 []) (g.getD s.2.2.1 []) s.2.2.2).1+((List.range s.2.1.length).map fun i=>if i=s.2.2.1 then 0 else (cY i (s.2.1.getD i []) (g.getD i [])).1).sum:=by
 have hm:=h.m
 unfold bW
 rw [List.map_append,List.sum_append,qk,<- List.range_eq_range']
 have r1:=xT (n:=s.2.2.1) (c:=s.2.2.2) (by have:=h.r;omega) (by rw [(bz h h.r).1];exact h.w2) (by rw [(bz h h.r).1,(eA hg h.r).1]) (eA hg h.r).2 (by rw [(bz h h.r).1];exact h.c)
 have r3:((ic s g).map bv).sum=(mz s.2.2.1 (s.2.1.getD s.2.2.1 []) (g.getD s.2.2.1 []) s.2.2.2).1:=r1.2.symm
 rw [r3]
 congr 2
 refine List.map_congr_left fun i hi=>?_
 have hi:=List.mem_range.1 hi
 unfold qZ
 split
 ·rfl
 ·exact (jQ (n:=i) (by omega) (by rw [(bz h hi).1];exact h.w2) (by rw [(bz h hi).1,(eA hg hi).1]) (eA hg hi).2).2.symm
theorem wR (h:GS s) (hg:GL s g) {os:List Od} (ho:∀ o∈os,okO o=true) (e:rn (some s) os=some s') (e2:s'.2.1=g):ay s g<=(os.map bv).sum:=by
 have a1:=(lP (bW s g) []).2
 have a2:=rK h hg
 have so:=rz (fun i=>(cY i (s.2.1.getD i []) (g.getD i [])).1) s.2.2.1 s.2.1.length
 rw [if_pos h.r] at so
 simp only [List.map_nil,List.sum_nil,Nat.zero_add] at a1
 unfold ay shO
 have hold:(s.2.1.getD s.2.2.1 []).length=s.1:=(bz h h.r).1
 by_cases H:∃ a q t,os=a++.wipe::q/\rn (some s) a=some t/\t.2.2.1=s.2.2.1/\t.2.2.2<s.2.2.2
 ·obtain ⟨a,q,t,rfl,ea,t1,t2⟩:=H
  have hoa:∀ o∈a,okO o=true:=fun o h=>ho o (List.mem_append_left _ h)
  have hoq:∀ o∈q,okO o=true:=fun o h=>ho o (List.mem_append_right _ (List.mem_cons_of_mem _ h))
  rcases uH (r0:=s.2.2.1) (c0:=s.2.2.2) (R:=s.2.1) a ⟨rfl,Nat.le_refl _,fun _ _=>rfl,fun _ _=>rfl⟩ h hoa ea with z|⟨p,n,k,a2',s1,s2,rfl,g1,b1,st,ra,w1,m1,okg⟩
  ·have:=z.c;omega
  ·have hoa2:∀ o∈a2',okO o=true:=fun o h=>hoa o (List.mem_append_right _ (List.mem_cons_of_mem _ h))
   have g2:=lf g1 okg st
   have v1:Iv s1 false (flS s1 (.go n k) flN) s2:=by
    simp only [bA] at st
    split at st
    ·cases st
    ·cases st
     exact ⟨rfl,rfl,fun i j _ _ _=>by show _=und _ (wb (fun _=>false) _);rw [wb0];rfl,fun i j q=>(by rcases q with q|q <;> cases q),.inl (fH (Nat.le_refl _) (by dsimp only;omega))⟩
   have c1:=nC s.2.1.length s.1 s1 (.go n k) flN
   rw [Kp] at c1
   obtain ⟨f2,v2,c2,_,_⟩:=Iv.run s.2.1.length s.1 a2' v1 g2 hoa2 ra
   have gt:=DR _ g2 hoa2 ra
   rw [gF,ea,jv] at e
   have st2:bA t .wipe=some (t.1,t.2.1.set t.2.2.1 ((t.2.1.getD t.2.2.1 []).take t.2.2.2++List.replicate (t.1 - t.2.2.2) 32),t.2.2.1,t.2.2.2):=rfl
   rw [show ((some t).bind fun s=>bA s .wipe)=_ from st2] at e
   have v3:=v2.step gt rfl st2
   have c3:=nC s.2.1.length s.1 t .wipe f2
   obtain ⟨f4,v4,c4,w4,_⟩:=Iv.run s.2.1.length s.1 q v3 (lf gt rfl st2) hoq e
   have low:f4.wp s.2.2.1 t.2.2.2=true:=w4 _ _ (by rw [<- t1];exact fH (Nat.le_refl _) (by omega))
   have tot:wg s.2.1.length s.1 f4<=((p++.go n k::a2'++.wipe::q).map bv).sum:=by
    simp only [List.map_append,List.map_cons,List.sum_append,List.sum_cons]
    omega
   have each:∀ i,i<s.2.1.length->(cY i (s.2.1.getD i []) (g.getD i [])).1<=qa s.1 f4 i:=fun i hi=>by
    refine BF i hi h (fun j hj q=>?_) fun j q=>?_
    ·have:=v4.row i j (by rw [m1];exact hi) (by rw [w1];exact hj) q
     rw [e2] at this
     rw [this]
     by_cases y:i=s.2.2.1
     ·subst y
      by_cases x:j<s.2.2.2
      ·rw [b1.l j x]
      ·rw [xp low (by omega)];rfl
     ·rw [b1.o i y]
    ·rcases v4.at' i j q with z|z|z
     ·exact .inl z
     ·exact .inr z
     ·cases z.1
   have sm:=sK s.2.1.length each
   have mn:(mz s.2.2.1 (s.2.1.getD s.2.2.1 []) (g.getD s.2.2.1 []) s.2.2.2).1<=(cY s.2.2.1 (s.2.1.getD s.2.2.1 []) (g.getD s.2.2.1 [])).1:=fS _ _ _ (by simp)
   unfold wg at tot
   omega
 ·obtain ⟨f',v',c',_,l'⟩:=Iv.run s.2.1.length s.1 os (iv0 s) h ho e
  have low:=l' s.2.2.1 s.2.2.2 (fun a q t e1 e3 e4=>H ⟨a,q,t,e1,e3,e4.1,e4.2⟩) fun _ _=>rfl
  rw [Kp] at c'
  have row:∀ i j,i<s.2.1.length->j<s.1->f'.sd i j=false->(g.getD i []).getD j 0=und ((s.2.1.getD i []).getD j 0) (wb (f'.wp i) (j+1)):=fun i j hi hj q=>by
   have:=v'.row i j hi hj q
   rw [e2] at this;exact this
  have pm:=xv s.2.2.1 (old:=s.2.1.getD s.2.2.1 []) (new:=g.getD s.2.2.1 []) (sd:=f'.sd s.2.2.1) (gn:=f'.gn s.2.2.1) (wp:=f'.wp s.2.2.1) (c:=s.2.2.2) (by rw [hold];exact h.c) (fun j hj q=>(row _ j h.r (by omega) q).symm) (fun j q=>(v'.at' _ j q).imp id (fun z=>z.imp id fun z=>z.2.2)) low
  rw [hold] at pm
  have mn:(mz s.2.2.1 (s.2.1.getD s.2.2.1 []) (g.getD s.2.2.1 []) s.2.2.2).1<=(cQ s.2.2.1 (s.2.1.getD s.2.2.1 []) (g.getD s.2.2.1 []) s.2.2.2).1:=fS _ _ _ (by simp)
  have each:∀ i,i<s.2.1.length->(if i=s.2.2.1 then 0 else (cY i (s.2.1.getD i []) (g.getD i [])).1)<=(if i=s.2.2.1 then 0 else qa s.1 f' i):=fun i hi=>by
   by_cases y:i=s.2.2.1
   ·rw [if_pos y,if_pos y];exact Nat.le_refl _
   ·rw [if_neg y,if_neg y]
    refine BF i hi h (fun j hj q=>row i j hi hj q) fun j q=>?_
    rcases v'.at' i j q with z|z|z
    ·exact .inl z
    ·exact .inr z
    ·exact absurd z.2.1 y
  have sm:=sK s.2.1.length each
  have so2:=rz (qa s.1 f') s.2.2.1 s.2.1.length
  rw [if_pos h.r] at so2
  unfold wg at c'
  have pm':(cQ s.2.2.1 (s.2.1.getD s.2.2.1 []) (g.getD s.2.2.1 []) s.2.2.2).1<=qa s.1 f' s.2.2.1:=pm
  omega
end
noncomputable def ce (row:List Nat) (nw:Nat->Nat) (b j:Nat) (w:Bool) (i:Nat):Nat:=if i<b then row.getD i 0 else if i<j then nw i else und (row.getD i 0) w
noncomputable def tg (row:List Nat) (nw:Nat->Nat) (b j:Nat) (w:Bool):List Nat:=(List.range row.length).map (ce row nw b j w)
theorem jE (row:List Nat) (nw:Nat->Nat) (b j:Nat) (w:Bool):(tg row nw b j w).length=row.length:=by unfold tg;rw [List.length_map,List.length_range]
section
variable {n b:Nat} {row x:List Nat} {nw:Nat->Nat} {h0 w:Bool}
theorem ce1 (h:i<b):ce row nw b j w i=row.getD i 0:=if_pos h
theorem ce2 (h1:b<=i) (h2:i<j):ce row nw b j w i=nw i:=by unfold ce;rw [if_neg (by omega),if_pos h2]
theorem ce3 (hb:b<=j) (h:j<=i):ce row nw b j w i=und (row.getD i 0) w:=by unfold ce;rw [if_neg (by omega),if_neg (by omega)]
theorem kI (h:i<row.length):(tg row nw b j w)[i]?=some (ce row nw b j w i):=by
 unfold tg;rw [List.getElem?_map,List.getElem?_range h];rfl
theorem uV (hl:x.length=row.length) (h:∀ i,i<row.length->x[i]?=some (ce row nw b j w i)):x=tg row nw b j w:=by
 refine List.ext_getElem? fun i=>?_
 by_cases hi:i<row.length
 ·rw [h i hi,kI hi]
 ·rw [List.getElem?_eq_none (by omega),List.getElem?_eq_none (by rw [jE];omega)]
theorem Bq (row:List Nat) (nw:Nat->Nat) (b:Nat):row=tg row nw b b false:=by
 refine uV rfl fun i hi=>?_
 have:row[i]?=some (row.getD i 0):=ja hi
 rw [this]
 by_cases z:i<b
 ·rw [ce1 z]
 ·rw [ce3 (Nat.le_refl _) (by omega)];rfl
theorem DP (hb:b<=j) (hj:j<=row.length):(tg row nw b j false).take j++List.replicate (row.length - j) 32=tg row nw b j true:=by
 have l:=jE row nw b j false
 refine uV (by rw [List.length_append,List.length_take,List.length_replicate];omega) fun i hi=>?_
 by_cases z:i<j
 ·rw [List.getElem?_append_left (by rw [List.length_take];omega),List.getElem?_take,if_pos z,kI hi]
  by_cases y:i<b
  ·rw [ce1 y,ce1 y]
  ·rw [ce2 (by omega) z,ce2 (by omega) z]
 ·rw [List.getElem?_append_right (by rw [List.length_take];omega),List.getElem?_replicate,if_pos (by rw [List.length_take];omega),ce3 hb (by omega)];rfl
theorem EM (hb:b<=j) (hj:j<row.length):(tg row nw b j w).take j++[nw j]++(tg row nw b j w).drop (j+1)=tg row nw b (j+1) w:=by
 have l:=jE row nw b j w
 refine uV (by rw [List.length_append,List.length_append,List.length_take,List.length_drop,List.length_cons,List.length_nil];omega) fun i hi=>?_
 by_cases z:i<j
 ·rw [List.append_assoc,List.getElem?_append_left (by rw [List.length_take];omega),List.getElem?_take,if_pos z,kI hi]
  by_cases y:i<b
  ·rw [ce1 y,ce1 y]
  ·rw [ce2 (by omega) z,ce2 (by omega) (by omega)]
 ·by_cases y:i=j
  ·subst y
   rw [List.append_assoc,List.getElem?_append_right (by rw [List.length_take];omega),List.length_take,show i - min i (tg row nw b i w).length=0 by omega,ce2 hb (by omega)];rfl
  ·rw [List.getElem?_append_right (by rw [List.length_append,List.length_take,List.length_cons,List.length_nil];omega),List.getElem?_drop,List.length_append,List.length_take,List.length_cons,List.length_nil,show j+1+(i - (min j (tg row nw b j w).length+(0+1)))=i by omega,kI hi,ce3 hb (by omega),ce3 (by omega) (by omega)]
theorem zz (hb:b<=j) (hj:j<row.length) (e:und (row.getD j 0) w=nw j):tg row nw b j w=tg row nw b (j+1) w:=by
 refine uV (jE ..) fun i hi=>?_
 rw [kI hi]
 by_cases z:i<b
 ·rw [ce1 z,ce1 z]
 ·by_cases y:i<j
  ·rw [ce2 (by omega) y,ce2 (by omega) (by omega)]
  ·by_cases q:i=j
   ·subst q;rw [ce3 hb (Nat.le_refl _),ce2 hb (by omega),e]
   ·rw [ce3 hb (by omega),ce3 (by omega) (by omega)]
noncomputable def Rch (n:Nat) (row:List Nat) (nw:Nat->Nat) (b:Nat) (h0:Bool) (j:Nat) (k:Ky) (p:Pl):Prop:=∀ (R:List (List Nat)) (r c:Nat),n<R.length->R.getD n []=row->(h0=true->r=n/\c=b)->
 ∃ r' c',rn (some (row.length,R,r,c)) p.2=some (row.length,R.set n (tg row nw b j k.2),r',c')/\(k.1=true->r'=n/\c'=j)
theorem kW {R:List (List Nat)} {x:List Nat} (h:n<R.length):(R.set n x).getD n []=x:=by rw [dQ,if_pos ⟨rfl,h⟩]
theorem Ho {R:List (List Nat)} (h:n<R.length):R.set n (R.getD n [])=R:=by
 rw [List.getD_eq_getElem?_getD,List.getElem?_eq_getElem h];exact List.set_getElem_self h
theorem Rch.start:Rch n row nw b h0 b (h0,false) (0,[]):=fun R r c hn hr hp=>⟨r,c,by
 show some _=_
 rw [show (h0,false).2=false from rfl,<- Bq,<- hr,Ho hn],hp⟩
theorem yw (a:Option St) (os:List Od) (o:Od):rn a (os++[o])=(rn a os).bind fun s=>bA s o:=by rw [gF];rfl
theorem Rch.go {p:Pl} (h:Rch n row nw b h0 j (false,w) p) (hj:j<=row.length):Rch n row nw b h0 j (true,w) (jd p (.go n j)):=fun R r c hn hr hp=>by
 obtain ⟨r',c',e,_⟩:=h R r c hn hr hp
 refine ⟨n,j,?_,fun _=>⟨rfl,rfl⟩⟩
 show rn _ (p.2++[.go n j])=_
 rw [yw,e]
 exact if_neg (by simp only [List.length_set];omega)
theorem Rch.wipe {p:Pl} (h:Rch n row nw b h0 j (true,false) p) (hb:b<=j) (hj:j<=row.length):Rch n row nw b h0 j (true,true) (jd p .wipe):=fun R r c hn hr hp=>by
 obtain ⟨r',c',e,q⟩:=h R r c hn hr hp
 obtain ⟨rfl,rfl⟩:=q rfl
 refine ⟨r',c',?_,fun _=>⟨rfl,rfl⟩⟩
 show rn _ (p.2++[.wipe])=_
 rw [yw,e]
 show some (row.length,(R.set r' (tg row nw b c' false)).set r' (((R.set r' (tg row nw b c' false)).getD r' []).take c'++List.replicate (row.length - c') 32),r',c')=_
 rw [kW hn,DP hb hj,List.set_set]
theorem Rch.say {p:Pl} (h:Rch n row nw b h0 j (true,w) p) (hb:b<=j) (hj:j<row.length):Rch n row nw b h0 (j+1) (true,w) (jd p (.say [nw j])):=fun R r c hn hr hp=>by
 obtain ⟨r',c',e,q⟩:=h R r c hn hr hp
 obtain ⟨rfl,rfl⟩:=q rfl
 refine ⟨r',c'+1,?_,fun _=>⟨rfl,rfl⟩⟩
 show rn _ (p.2++[.say [nw c']])=_
 rw [yw,e]
 show (if row.length<c'+1 then none else some (row.length,(R.set r' (tg row nw b c' w)).set r' (((R.set r' (tg row nw b c' w)).getD r' []).take c'++[nw c']++((R.set r' (tg row nw b c' w)).getD r' []).drop (c'+1)),r',c'+1))=_
 rw [if_neg (by omega),kW hn,EM hb hj,List.set_set]
theorem Rch.leave {p:Pl} {a:Bool} (h:Rch n row nw b h0 j (a,w) p) (hb:b<=j) (hj:j<row.length) (e:und (row.getD j 0) w=nw j):Rch n row nw b h0 (j+1) (false,w) p:=fun R r c hn hr hp=>by
 obtain ⟨r',c',e1,_⟩:=h R r c hn hr hp
 exact ⟨r',c',by rw [e1];show some (_,R.set n (tg row nw b j w),_,_)=_;rw [zz hb hj e],fun z=>by cases z⟩
theorem yr {P:Ky->Pl->Prop} {m:Mp} {a c:Ky} {o:Od} (h:All P m) (ho:∀ p,P a p->P c (jd p o)):All P (move m a c o):=by
 unfold move
 split
 ·rename_i q e;exact h.offer (ho q (h.at e))
 ·exact h
theorem Rch.cols {new:List Nat} (hl:∀ i,i<old.length->old.getD i 0=row.getD i 0) (hn:∀ i,i<old.length->new.getD i 0=nw i) (hw:old.length<=row.length):∀ k,b+k<=old.length->All (Rch n row nw b h0 (b+k)) ((List.range' b k).foldl (rR n old new) (m0 (h0,false)))
 | 0,_=>fun z hz=>by rw [List.mem_singleton.1 hz];exact Rch.start
 | k+1,h=>by
  have ih:=Rch.cols hl hn hw k (by omega)
  rw [List.range'_1_concat,List.foldl_append,List.foldl_cons,List.foldl_nil]
  show All (Rch n row nw b h0 (b+k+1)) _
  have mv:All (Rch n row nw b h0 (b+k)) (dC ((List.range' b k).foldl (rR n old new) (m0 (h0,false))) n (b+k)):=
   yr (yr (yr ih fun p hp=>hp.go (by omega)) fun p hp=>hp.wipe (by omega) (by omega)) fun p hp=>hp.go (by omega)
  refine mW mv (fun q p hp e=>?_) fun q p hp e=>?_
  ·rw [hn _ (by omega)]
   obtain ⟨a,w⟩:=q
   cases e
   exact Rch.say hp (by omega) (by omega)
  ·rw [hn _ (by omega),hl _ (by omega)] at e
   exact Rch.leave (a:=q.1) hp (by omega) (by omega) e
end
theorem kT {m:Mp} {ks:List Ky} (h:fb m ks≠[]):∃ k∈ks,m.lookup k=some (gE m ks):=by
 obtain ⟨k,hk,e⟩:=List.mem_filterMap.1 (qy h)
 exact ⟨k,hk,e⟩
section
variable {n c:Nat} {new:List Nat}
theorem uG (hl:new.length=old.length) (hw:old.length<=40):∀ (R:List (List Nat)) (r c:Nat),n<R.length->R.getD n []=old->∃ r' c',rn (some (old.length,R,r,c)) (cY n old new).2=some (old.length,R.set n new,r',c'):=by
 have a:=Rch.cols (n:=n) (row:=old) (nw:=fun i=>new.getD i 0) (b:=0) (h0:=false) (old:=old) (new:=new) (fun _ _=>rfl) (fun _ _=>rfl) (Nat.le_refl _) old.length (by omega)
 obtain ⟨k,_,e⟩:=kT (ks:=allK) (oA gd0 n (b:=0) hl (Nat.zero_le _) (by omega)).2.all
 unfold dZ at e
 rw [Nat.sub_zero] at e
 have p:=a.at e
 intro R r c hn hr
 obtain ⟨r',c',e1,_⟩:=p R r c hn hr (fun z=>by cases z)
 refine ⟨r',c',?_⟩
 rw [show (cY n old new).2=(gE ((List.range' 0 old.length).foldl (rR n old new) (m0 (false,false))) allK).2 by unfold cY dZ;rw [Nat.sub_zero],e1]
 have:new=tg old (fun i=>new.getD i 0) 0 (0+old.length) k.2:=uV hl fun i hi=>by rw [ce2 (Nat.zero_le _) (by omega)];exact ja (by omega)
 rw [<- this]
theorem xH (hl:new.length=old.length) (hw:old.length<=40) (hc:c<=old.length) (R:List (List Nat)) (hn:n<R.length) (hr:R.getD n []=old):∃ r' c',rn (some (old.length,R,n,c)) (cQ n old new c).2=some (old.length,R.set n new,r',c'):=by
 have a:=Rch.cols (n:=n) (row:=old) (nw:=fun i=>new.getD i 0) (b:=c) (h0:=true) (old:=old) (new:=new) (fun _ _=>rfl) (fun _ _=>rfl) (Nat.le_refl _) (old.length - c) (by omega)
 obtain ⟨k,_,e⟩:=kT (ks:=allK) (oA gd1 n (b:=c) hl hc (by omega)).2.all
 obtain ⟨r1,c1,e1,_⟩:=(a.at e) R n c hn hr (fun _=>⟨rfl,rfl⟩)
 have l1:(old.take c).length=c:=by rw [List.length_take];omega
 have l2:(new.take c).length=c:=by rw [List.length_take];omega
 have g1:∀ i,i<c->(tg old (fun i=>new.getD i 0) c (c+(old.length - c)) k.2).getD i 0=old.getD i 0:=fun i hi=>by
  rw [List.getD_eq_getElem?_getD,kI (by omega),ce1 hi];rfl
 have b:=Rch.cols (n:=n) (row:=tg old (fun i=>new.getD i 0) c (c+(old.length - c)) k.2) (nw:=fun i=>new.getD i 0) (b:=0) (h0:=false) (old:=old.take c) (new:=new.take c) (fun i hi=>by rw [gQ (by omega),g1 i (by omega)]) (fun i hi=>gQ (by omega)) (by rw [jE];omega) c (by omega)
 obtain ⟨k2,hk2,e2⟩:=kT (ks:=twoK) (oA gd0 n (b:=0) (old:=old.take c) (new:=new.take c) (by omega) (Nat.zero_le _) (by omega)).2.two
 have e3:=e2
 unfold dZ at e3
 rw [Nat.sub_zero,l1] at e3
 obtain ⟨r2,c2,e4,_⟩:=(b.at e3) (R.set n (tg old (fun i=>new.getD i 0) c (c+(old.length - c)) k.2)) r1 c1 (by rw [List.length_set];exact hn) (kW hn) (fun z=>by cases z)
 have kf:k2.2=false:=by
  rcases List.mem_cons.1 hk2 with z|z
  ·rw [z]
  ·rw [List.mem_singleton.1 z]
 refine ⟨r2,c2,?_⟩
 show rn _ ((ef n old new c).2++(iK n old new c).2)=_
 rw [gF]
 have e1':rn (some (old.length,R,n,c)) (ef n old new c).2=_:=e1
 rw [e1']
 rw [jE,List.set_set,kf] at e4
 rw [show (iK n old new c).2=(gE ((List.range' 0 c).foldl (rR n (old.take c) (new.take c)) (m0 (false,false))) twoK).2 by unfold iK dZ;rw [Nat.sub_zero,l1],e4]
 have fin:new=tg (tg old (fun i=>new.getD i 0) c (c+(old.length - c)) k.2) (fun i=>new.getD i 0) 0 (0+c) false:=by
  refine uV (by rw [jE];exact hl) fun i hi=>?_
  rw [jE] at hi
  rw [ja (show i<new.length by omega)]
  by_cases z:i<c
  ·rw [ce2 (Nat.zero_le _) (by omega)]
  ·rw [ce3 (Nat.zero_le _) (by omega),List.getD_eq_getElem?_getD (l:=tg _ _ _ _ _),kI hi,ce2 (by omega) (by omega)];rfl
 rw [<- fin]
theorem CP (hl:new.length=old.length) (hw:old.length<=40) (hc:c<=old.length) (R:List (List Nat)) (hn:n<R.length) (hr:R.getD n []=old):∃ r' c',rn (some (old.length,R,n,c)) (mz n old new c).2=some (old.length,R.set n new,r',c'):=by
 rcases List.mem_cons.1 (gU [cY n old new] (cQ n old new c)) with z|z
 ·unfold mz;rw [z];exact xH hl hw hc R hn hr
 ·unfold mz;rw [List.mem_singleton.1 z];exact uG hl hw R n c hn hr
end
section
variable {s:St} {g:List (List Nat)}
theorem uu (h:GS s) (hg:GL s g):∀ (k j:Nat) (R:List (List Nat)) (r c:Nat),j+k<=s.2.1.length->R.length=s.2.1.length->(∀ i,j<=i->i≠s.2.2.1->R.getD i []=s.2.1.getD i [])->
  ∃ R' r' c',rn (some (s.1,R,r,c)) ((List.range' j k).flatMap (qZ s g))=some (s.1,R',r',c')/\R'.length=s.2.1.length/\∀ i,R'.getD i []=if j<=i/\i<j+k/\i≠s.2.2.1 then g.getD i [] else R.getD i []
 | 0,j,R,r,c,_,hR,_=>⟨R,r,c,rfl,hR,fun i=>by rw [if_neg (by omega)]⟩
 | k+1,j,R,r,c,hj,hR,hs=>by
  have step:∃ R1 r1 c1,rn (some (s.1,R,r,c)) (qZ s g j)=some (s.1,R1,r1,c1)/\R1.length=s.2.1.length/\∀ i,R1.getD i []=if i=j/\i≠s.2.2.1 then g.getD i [] else R.getD i []:=by
   unfold qZ
   by_cases z:j=s.2.2.1
   ·rw [if_pos z];exact ⟨R,r,c,rfl,hR,fun i=>by rw [if_neg (by omega)]⟩
   ·rw [if_neg z]
    have l1:=(bz h (show j<s.2.1.length by omega)).1
    have l2:=(eA hg (show j<s.2.1.length by omega)).1
    obtain ⟨r1,c1,e⟩:=uG (n:=j) (old:=s.2.1.getD j []) (new:=g.getD j []) (by omega) (by rw [l1];exact h.w2) R r c (by omega) (hs j (Nat.le_refl _) z)
    rw [l1] at e
    refine ⟨_,r1,c1,e,by rw [List.length_set];exact hR,fun i=>?_⟩
    rw [dQ]
    by_cases y:i=j
    ·subst y;rw [if_pos ⟨rfl,by omega⟩,if_pos ⟨rfl,z⟩]
    ·rw [if_neg (by omega),if_neg (by omega)]
  obtain ⟨R1,r1,c1,e1,l1,g1⟩:=step
  obtain ⟨R2,r2,c2,e2,l2,g2⟩:=uu h hg k (j+1) R1 r1 c1 (by omega) l1 (fun i hi hn=>by rw [g1,if_neg (by omega)];exact hs i (by omega) hn)
  refine ⟨R2,r2,c2,?_,l2,fun i=>?_⟩
  ·rw [List.range'_succ,List.flatMap_cons,gF,e1];exact e2
  ·rw [g2,g1]
   by_cases z:j+1<=i/\i<j+1+k/\i≠s.2.2.1
   ·rw [if_pos z,if_pos (by omega)]
   ·rw [if_neg z]
    by_cases y:i=j/\i≠s.2.2.1
    ·rw [if_pos y,if_pos (by omega)]
    ·rw [if_neg y,if_neg (by omega)]
theorem xm (h:GS s) (hg:GL s g):∃ r c,rn (some s) (bW s g)=some (s.1,g,r,c):=by
 have l1:=(bz h h.r).1
 have l2:=(eA hg h.r).1
 obtain ⟨r1,c1,e1⟩:=CP (n:=s.2.2.1) (c:=s.2.2.2) (old:=s.2.1.getD s.2.2.1 []) (new:=g.getD s.2.2.1 []) (by omega) (by rw [l1];exact h.w2) (by rw [l1];exact h.c) s.2.1 h.r rfl
 rw [l1] at e1
 obtain ⟨R2,r2,c2,e2,l3,g2⟩:=uu h hg s.2.1.length 0 (s.2.1.set s.2.2.1 (g.getD s.2.2.1 [])) r1 c1 (by omega) (by rw [List.length_set]) (fun i _ hn=>by rw [dQ,if_neg (by omega)])
 refine ⟨r2,c2,?_⟩
 unfold bW ic
 have e1':rn (some s) (mz s.2.2.1 (s.2.1.getD s.2.2.1 []) (g.getD s.2.2.1 []) s.2.2.2).2=_:=e1
 rw [gF,e1',e2]
 have:R2=g:=by
  refine List.ext_getElem? fun i=>?_
  by_cases hi:i<s.2.1.length
  ·have q:R2.getD i []=g.getD i []:=by
    rw [g2]
    by_cases z:i=s.2.2.1
    ·rw [if_neg (by omega),dQ,if_pos ⟨z,h.r⟩,z]
    ·rw [if_pos (by omega)]
   have hi2:i<g.length:=by rw [hg.n];exact hi
   rw [List.getD_eq_getElem?_getD,List.getD_eq_getElem?_getD,List.getElem?_eq_getElem (by omega),List.getElem?_eq_getElem hi2] at q
   rw [List.getElem?_eq_getElem (by omega),List.getElem?_eq_getElem hi2]
   exact congrArg some q
  ·rw [List.getElem?_eq_none (by omega),List.getElem?_eq_none (by rw [hg.n];omega)]
 rw [this]
theorem zq {s s1 s2:St} {l o j:Od} (h:GS s) (hj:eK l o=some j) (e1:bA s l=some s1) (e2:bA s1 o=some s2):bA s j=some s2:=by
 obtain ⟨wd,rows,r,c⟩:=s
 have h4:=h.r
 have h5:=h.c
 have h6:=h.l
 dsimp only at h4 h5 h6
 obtain ⟨g1,_⟩:=h6 _ (gW h4)
 cases l <;> cases o <;> first|(simp [eK] at hj;done)|skip
 ·rename_i x y
  simp only [eK] at hj
  split at hj
  ·cases hj
   by_cases hn:wd<c+x.length
   ·simp only [bA,hn,if_true] at e1;cases e1
   ·simp only [bA,hn,if_false] at e1
    cases e1
    by_cases hm:wd<c+x.length+y.length
    ·simp only [bA,hm,if_true] at e2;cases e2
    ·simp only [bA,hm,if_false] at e2
     cases e2
     have hk : ¬ wd<c+(x++y).length:=by simp;omega
     simp only [bA,kW h4,List.set_set,List.length_append]
     have t1:((rows.getD r []).take c).length=c:=by rw [List.length_take];omega
     have t2:((rows.getD r []).take c++x).length=c+x.length:=by rw [List.length_append,t1]
     have a1:((rows.getD r []).take c++x++(rows.getD r []).drop (c+x.length)).take (c+x.length)=(rows.getD r []).take c++x:=by
      rw [List.take_append_of_le_length (by omega),<- t2,List.take_length]
     have a2:((rows.getD r []).take c++x++(rows.getD r []).drop (c+x.length)).drop (c+x.length+y.length)=(rows.getD r []).drop (c+(x.length+y.length)):=by
      rw [<- t2,List.drop_append,List.drop_of_length_le (by omega),List.nil_append,t2,List.drop_drop]
      congr 1;omega
     have hk2 : ¬ wd<c+(x.length+y.length):=by omega
     rw [a1,a2,if_neg hk2]
     simp [Nat.add_assoc]
  ·cases hj
 ·rename_i r1 c1 r2 c2
  simp only [eK,Option.some.injEq] at hj
  subst hj
  by_cases hn:rows.length<=r1\/wd<c1
  ·simp only [bA,hn,if_true] at e1;cases e1
  ·simp only [bA,hn,if_false] at e1
   cases e1
   exact e2
 ·simp only [eK,Option.some.injEq] at hj
  subst hj
  simp only [bA,Option.some.injEq] at e1
  subst e1
  simp only [bA,kW h4,List.set_set,Option.some.injEq] at e2
  subst e2
  have t1:((rows.getD r []).take c).length=c:=by rw [List.length_take];omega
  have a1:((rows.getD r []).take c++List.replicate (wd - c) 32).take c=(rows.getD r []).take c:=by
   rw [List.take_append_of_le_length (by omega)]
   exact List.take_of_length_le (by omega)
  simp only [bA]
  rw [a1]
theorem zS {s s':St} {acc:List Od} {o:Od} (h:GS s) (hk:∀ p∈acc,okO p=true) (e:rn (some s) (acc++[o])=some s'):rn (some s) (dG acc o)=some s':=by
 rcases AV acc with rfl|⟨a,l,rfl⟩
 ·exact e
 ·cases hj:eK l o with
  | none=>rw [iI hj];exact e
  | some j=>
   rw [gX hj]
   rw [gF,gF] at e
   rw [gF]
   cases q:rn (some s) a with
   | none=>rw [q,fX,fX] at e;cases e
   | some s1=>
    rw [q] at e
    have h1:=DR a h (fun p hp=>hk p (List.mem_append_left _ hp)) q
    have e1:rn (some s1) [l]=bA s1 l:=rfl
    rw [e1] at e
    cases q2:bA s1 l with
    | none=>rw [q2,fX] at e;cases e
    | some s2=>
     rw [q2] at e
     have e2:bA s2 o=some s':=e
     exact zq h1 hj q2 e2
theorem uo {s s':St} (h:GS s):∀ (os acc:List Od),(∀ p∈acc,okO p=true)->(∀ p∈os,okO p=true)->rn (some s) (acc++os)=some s'->rn (some s) (os.foldl dG acc)=some s'
 | [],acc,_,_,e=>by rw [List.append_nil] at e;exact e
 | o::os,acc,h1,h2,e=>by
  refine uo h os (dG acc o) (oh h1 (h2 o (List.mem_cons_self ..))) (fun p hp=>h2 p (List.mem_cons_of_mem _ hp)) ?_
  rw [show acc++o::os=acc++[o]++os by simp,gF] at e
  rw [gF]
  cases q:rn (some s) (acc++[o]) with
  | none=>rw [q,fX] at e;cases e
  | some s1=>rw [zS h h1 q,<- q];exact e
theorem ue (h:GS s) (hg:GL s g):∃ r c,rn (some s) (shO (bW s g))=some (s.1,g,r,c):=by
 obtain ⟨r,c,e⟩:=xm h hg
 exact ⟨r,c,uo h (bW s g) [] (fun _ h=>by cases h) (fun o ho=>(fU h hg o ho).1) e⟩
end
end Q
namespace Q93
open L2 Q
open PySem (sizeLine Addr)
noncomputable def qm (av:Addr) (ao ai:MF) (am aj aw:MF) (ar aq:List D->R D) (ah aL:List D->R D):Ev->O:=(fP 1 (aK 2 ar (aa (rvz 0) (aa (ciz 10) nlz))))
noncomputable def tQ (av:Addr) (ao ai:MF) (am aj aw:MF) (ar aq:List D->R D) (ah aL:List D->R D):Ev->O:=(IX 2 3 (aa (aK 3 aq (aa (rvz 0) (aa (ciz 500) (aa (rvz 1) nlz)))) (aa (aK 3 aq (aa (rvz 0) (aa (ciz 1000) (aa (rvz 1) nlz)))) nlz)))
noncomputable def tP (av:Addr) (ao ai:MF) (am aj aw:MF) (ar aq:List D->R D) (ah aL:List D->R D):Ev->O:=(xY 5 (fN av 4 1 ao (aa (rvz 2) nlz)))
noncomputable def yV (av:Addr) (ao ai:MF) (am aj aw:MF) (ar aq:List D->R D) (ah aL:List D->R D):Ev->O:=(xY 6 (fN av 4 1 ao (aa (rvz 3) nlz)))
noncomputable def tz (av:Addr) (ao ai:MF) (am aj aw:MF) (ar aq:List D->R D) (ah aL:List D->R D):Ev->O:=(oIf (gB2 ltD (g2 bX (g2 bX (rvz 5) (rvz 6)) (ciz 2)) (aK 2 ah (aa (rvz 1) (aa (rvz 3) nlz)))) (aH (cA (fun _=>R.ok (D.bl false))) oNx) oNx)
noncomputable def yp (av:Addr) (ao ai:MF) (am aj aw:MF) (ar aq:List D->R D) (ah aL:List D->R D):Ev->O:=(xY 7 (fN av 4 1 ao (aa (aK 1 aL (aa (rvz 1) nlz)) nlz)))
noncomputable def xZ (av:Addr) (ao ai:MF) (am aj aw:MF) (ar aq:List D->R D) (ah aL:List D->R D):Ev->O:=(oIf (qV (gB2 neF (dF av 4 ai) (rvz 1)) (gB2 neF (dF av 4 am) (g2 bX (g2 bX (rvz 5) (rvz 6)) (rvz 7)))) (aH (cA (fun _=>R.ok (D.bl false))) oNx) oNx)
noncomputable def BI (av:Addr) (ao ai:MF) (am aj aw:MF) (ar aq:List D->R D) (ah aL:List D->R D):Ev->O:=(aH (vo av 8 1 ao (aa (g2 bX (gSl (rvz 3) (fun _=>R.ok none) (jH (g2 bX (rvz 9) (ciz 1)))) (gSl (aK 1 aL (aa (dF av 8 ai) nlz)) (jH (g2 bX (rvz 9) (ciz 1))) (fun _=>R.ok none))) nlz)) oNx)
noncomputable def yv (av:Addr) (ao ai:MF) (am aj aw:MF) (ar aq:List D->R D) (ah aL:List D->R D):Ev->O:=(vQ (lX 9) (aI cu (aa (gOf fu (aa (rvz 3) nlz)) nlz)) (BI av ao ai am aj aw ar aq ah aL))
noncomputable def sW (av:Addr) (ao ai:MF) (am aj aw:MF) (ar aq:List D->R D) (ah aL:List D->R D):Ev->O:=(oIf (gB2 neF (gSl (aK 1 aL (aa (dF av 8 ai) nlz)) (fun _=>R.ok none) (jH (gOf fu (aa (rvz 3) nlz)))) (cz (gm (aI bU (rvz 3)) [] (fun _=>R.ok true) (lU "str" dM (rvz 0) (aa (csz [32]) nlz))))) (aH (cA (fun _=>R.ok (D.bl false))) oNx) oNx)
noncomputable def sB (av:Addr) (ao ai:MF) (am aj aw:MF) (ar aq:List D->R D) (ah aL:List D->R D):Ev->O:=(cA (mr (g2 eqF (aK 2 ah (aa (rvz 1) (aa (aK 1 aL (aa (rvz 1) nlz)) nlz))) (ciz 0)) (g2 eqF (dF av 4 aj) (aI mkT (aa (ciz 3) (aa (ciz 0) nlz))))))
noncomputable def sA (av:Addr) (ao ai:MF) (am aj aw:MF) (ar aq:List D->R D) (ah aL:List D->R D):Ev->O:=(aH (yv av ao ai am aj aw ar aq ah aL) (aH (sW av ao ai am aj aw ar aq ah aL) (aH (sB av ao ai am aj aw ar aq ah aL) oNx)))
noncomputable def oQ (av:Addr) (ao ai:MF) (am aj aw:MF) (ar aq:List D->R D) (ah aL:List D->R D):Addr×Addr×Unit->Ev->O:=(oC (qm av ao ai am aj aw ar aq ah aL) (oC (tQ av ao ai am aj aw ar aq ah aL) (zF av 4 aw 1 (aa (rvz 1) nlz) (oC (tP av ao ai am aj aw ar aq ah aL) (oC (yV av ao ai am aj aw ar aq ah aL) (oC (tz av ao ai am aj aw ar aq ah aL) (oC (yp av ao ai am aj aw ar aq ah aL) (oC (xZ av ao ai am aj aw ar aq ah aL) (zF av 8 aw 1 (aa (rvz 1) nlz) (ww (sA av ao ai am aj aw ar aq ah aL)))))))))))
theorem vz {wd:Nat} (x:List Nat):bf (yc wd x) [32]=bf x [32]:=by
 unfold yc
 rw [gP,gP,List.reverse_append,List.reverse_replicate]
 generalize wd - x.length=n
 congr 1
 induction n with
 | zero=>rfl
 | succ n ih=>rw [List.replicate_succ,List.cons_append,List.dropWhile_cons];exact ih
theorem tri {s:Q.St} {g1 g2:List (List Nat)} (h:GS s) (h1:GL s g1) (h2:GL s g2):ay s g2<=ay s g1+ay (brS s g1) g2+2:=by
 have hb:=Aa h h1
 have h2':GL (brS s g1) g2:=⟨by show g2.length=g1.length;rw [h1.n,h2.n],h2.l⟩
 obtain ⟨r1,c1,e1⟩:=ue h h1
 obtain ⟨r2,c2,e2⟩:=ue hb h2'
 have o1:∀ o∈shO (bW s g1),okO o=true:=D5 fun o ho=>(fU h h1 o ho).1
 have o2:∀ o∈shO (bW (brS s g1) g2),okO o=true:=D5 fun o ho=>(fU hb h2' o ho).1
 have hr:=h.r
 have hc:=h.c
 have hm:=h.m
 have hw:=h.w2
 have run:rn (some s) (shO (bW s g1)++(.go s.2.2.1 s.2.2.2::shO (bW (brS s g1) g2)))=some (s.1,g2,r2,c2):=by
  rw [gF,e1,jv,show ((some (s.1,g1,r1,c1)).bind fun s'=>bA s' (.go s.2.2.1 s.2.2.2))=some (s.1,g1,s.2.2.1,s.2.2.2) from if_neg (by rw [h1.n];omega)]
  exact e2
 have:=wR h h2 (os:=shO (bW s g1)++(.go s.2.2.1 s.2.2.2::shO (bW (brS s g1) g2))) (fun o ho=>by
  rcases List.mem_append.1 ho with ho|ho
  ·exact o1 o ho
  ·rcases List.mem_cons.1 ho with rfl|ho
   ·simp only [okO,Bool.and_eq_true,decide_eq_true_eq];omega
   ·exact o2 o ho) run rfl
 rw [List.map_append,List.sum_append,List.map_cons,List.sum_cons] at this
 show _<=((shO (bW s g1)).map bv).sum+((shO (bW (brS s g1) g2)).map bv).sum+2
 have e:bv (.go s.2.2.1 s.2.2.2)=2:=rfl
 omega
section
variable {Cp Cs Co:Addr} {f:Q.St} {xs:List (List Nat)}
noncomputable def rf (xs:List (List Nat)) (f:Q.St) (k:Nat):List (List Nat):=xs.take (k+1)++(shR f).drop (k+1)
theorem ua (hk:k<xs.length) (hx:xs.length<=f.2.1.length):(rf xs f k).length=f.2.1.length:=by
 unfold rf shR
 rw [List.length_append,List.length_take,List.length_drop,List.length_map];omega
theorem tj (h:GS f) (hx:bi f.2.1.length f.1 xs=true) (hk:k<xs.length):bi f.2.1.length f.1 (rf xs f k)=true:=by
 have hs:=lS h
 unfold bi at hx hs ⊢
 rw [Bool.and_eq_true,decide_eq_true_eq,List.all_eq_true] at hx hs ⊢
 refine ⟨Nat.le_of_eq (ua hk hx.1),fun x h=>?_⟩
 rcases List.mem_append.1 h with h|h
 ·exact hx.2 x (List.mem_of_mem_take h)
 ·exact hs.2 x (List.mem_of_mem_drop h)
theorem wa (hk:k<xs.length) (hx:xs.length<=f.2.1.length):(shR (brS f (au f.2.1.length f.1 (rf xs f k)))).take (k+1)=(xs.map fun x=>bf x [32]).take (k+1):=by
 show ((au f.2.1.length f.1 (rf xs f k)).map fun x=>bf x [32]).take (k+1)=_
 unfold au
 rw [ua hk hx,Nat.sub_self,List.replicate_zero,List.append_nil,List.map_map]
 rw [show ((fun x=>bf x [32]) ∘ yc f.1)=fun x=>bf x [32] from funext fun x=>vz x]
 unfold rf
 rw [List.map_append,List.take_append_of_le_length (by rw [List.length_map,List.length_take];omega),List.map_take,List.take_take,Nat.min_self]
end
section
variable {Cp Cs Co:Addr} {ns:List Int} {x1 x2 x4 x5 x6 x7:Option Sl}
noncomputable abbrev B93 (Cp Cs Co:Addr):Ev->O:=BI Cp (db Co) cT dg cr (fk Cs) iB qY (cR Co) (ut Cs)
theorem yg {n:Nat} {fs:List (Nat×Fd)} (ho:ρ[i]?=some (some (.obj true C p fs))) (ha:gl ρ=.ok ds) (hl:ds.length=n) (hF:F fs ds=.ok d fs'):vo C i n F gl ρ=.nx (ρ.set i (some (.obj true C p fs'))):=by
 unfold vo;rw [kH ho,R.ok_out,ha,R.ok_out,if_pos hl]
 dsimp only
 rw [hF];rfl
theorem oV {xs:List (List Nat)}:jh (xs.map D.str) (some ((k:Int)+1)) none=(xs.drop (k+1)).map .str:=by
 rw [List.map_drop];exact DJ _ (k+1)
theorem wT {xs:List (List Nat)}:jh (xs.map D.str) none (some ((k:Int)+1))=(xs.take (k+1)).map .str:=by
 rw [List.map_take];exact AD _ (k+1)
theorem Ha {f:Q.St} {xs:List (List Nat)} {l tk:List D} {a:D} {c:Int} (h:GS f) (w:f.1<=8) (m:f.2.1.length<=4) (hx:bi f.2.1.length f.1 xs=true) (hk:k<xs.length) (hl:l.length<900) :
  B93 Cp Cs Co [vL fz ns,x1,x2,vD (.lst false (xs.map .str)),x4,x5,x6,x7,vO Cp p (cw (l++[st3 a (sD f) c]) tk),vI k]=.nx [vL fz ns,x1,x2,vD (.lst false (xs.map .str)),x4,x5,x6,x7,vO Cp p (cw (l++[st3 a (sD f) c]++[st3 (.str aU) (sD (brS f (au f.2.1.length f.1 (rf xs f k)))) (c+(ay f (au f.2.1.length f.1 (rf xs f k)):Int))]) []),vI k]:=by
 have hb:4 * f.1 * (f.2.1.length+1)<=900:=Nat.le_trans (Nat.mul_le_mul (Nat.mul_le_mul_left 4 w) (Nat.succ_le_succ m)) (by decide)
 have hxl:xs.length<=f.2.1.length:=by
  unfold bi at hx;rw [Bool.and_eq_true,decide_eq_true_eq] at hx;exact hx.1
 refine (iR ?_).trans rfl
 refine (yg (p:=p) rfl (ds:=[.lst false ((rf xs f k).map .str)]) ?_ rfl (jS h (tj h hx hk) hb hl)).trans rfl
 have sm:=nF (l:=l) (tk:=tk) (a:=a) (s:=f) (c:=c)
 have sh:=xR (C:=Cs) h
 have o8:∀ (a b c d e f g h:Option Sl) (i:List (Nat×Fd)) (r:Ev),oY Cp (a::b::c::d::e::f::g::h::vO Cp p i::r) 8=.ok i:=fun _ _ _ _ _ _ _ _ _ _=>iA rfl
 have c1:=wT (xs:=xs) (k:=k)
 have c2:=oV (xs:=shR f) (k:=k)
 have la:bX (.lst false ((xs.take (k+1)).map .str)) (.lst false (((shR f).drop (k+1)).map .str))=some (.lst false ((rf xs f k).map .str)):=by
  rw [Hr (by have:=bL;rw [List.length_map,List.length_map,List.length_take,List.length_drop];unfold shR;rw [List.length_map];omega)]
  unfold rf;rw [List.map_append]
 generalize cw (l++[st3 a (sD f) c]) tk=PP at *
 generalize (rf xs f k).map D.str=U at *
 generalize sD f=S at *
 clear h w m hx hk hl hb hxl
 walk_at "run"
theorem BP {xs:List (List Nat)}:∀ (j k:Nat) (f:Q.St) (l tk:List D) (a:D) (c:Int) (x9:Option Sl),GS f->f.1<=8->f.2.1.length<=4->bi f.2.1.length f.1 xs=true->k+j=xs.length->l.length+j<900->(shR f).take k=(xs.map fun x=>bf x [32]).take k->
  ∃ (f':Q.St) (l' tk':List D) (a':D) (c':Int) (y9:Option Sl),GS f'/\(shR f').take xs.length=xs.map (fun x=>bf x [32])/\cN (lX 9) (B93 Cp Cs Co) ((List.range' k j).map fun (i:Nat)=>D.int (i:Int)) [vL fz ns,x1,x2,vD (.lst false (xs.map .str)),x4,x5,x6,x7,vO Cp p (cw (l++[st3 a (sD f) c]) tk),x9] =
   .nx [vL fz ns,x1,x2,vD (.lst false (xs.map .str)),x4,x5,x6,x7,vO Cp p (cw (l'++[st3 a' (sD f') c']) tk'),y9]
 | 0,k,f,l,tk,a,c,x9,h,_,_,_,hk,_,e=>⟨f,l,tk,a,c,x9,h,by rw [<- (show k=xs.length from hk),e,List.take_of_length_le (by rw [List.length_map];omega)],rfl⟩
 | j+1,k,f,l,tk,a,c,x9,h,w,m,hx,hk,hl,_=>by
  have hxl:xs.length<=f.2.1.length:=by
   unfold bi at hx;rw [Bool.and_eq_true,decide_eq_true_eq] at hx;exact hx.1
  have gg:=lO (tj h hx (k:=k) (by omega))
  have b:=Ha (Cp:=Cp) (Cs:=Cs) (Co:=Co) (p:=p) (fz:=fz) (ns:=ns) (x1:=x1) (x2:=x2) (x4:=x4) (x5:=x5) (x6:=x6) (x7:=x7) (f:=f) (xs:=xs) (k:=k) (l:=l) (tk:=tk) (a:=a) (c:=c) h w m hx (by omega) (by omega)
  have n':(brS f (au f.2.1.length f.1 (rf xs f k))).2.1.length=f.2.1.length:=gg.n
  obtain ⟨f',l',tk',a',c',y9,h',e',lp⟩:=BP j (k+1) (brS f (au f.2.1.length f.1 (rf xs f k))) (l++[st3 a (sD f) c]) [] (.str aU) (c+(ay f (au f.2.1.length f.1 (rf xs f k)):Int)) (vI k) (Aa h gg) w (by rw [n'];exact m) (by rw [n'];exact hx) (by omega) (by simp;omega) (wa (by omega) hxl)
  exact ⟨f',l',tk',a',c',y9,h',e',by rw [List.range'_succ];exact (iz rfl b).trans lp⟩
end
theorem IT {Cs Co:Addr} (ns:List Int) (fz:Bool) (q:Addr×Addr×Unit) :
  az (oQ av (db Co) cT dg cr (fk Cs) iB qY (cR Co) (ut Cs) q (ax 10 [.lst fz (ns.map .int)]))=.ok (.bl true):=by
 obtain ⟨s,h,e0,e1,e2⟩:=Hi ns 10
 have w2:=(mX ns 10).2.1
 have m2:=(nQ ns 10).2.1
 have w:s.1<=8:=by omega
 have m:s.2.1.length<=4:=by omega
 have hb:4 * s.1 * (s.2.1.length+1)<=900:=Nat.le_trans (Nat.mul_le_mul (Nat.mul_le_mul_left 4 w) (Nat.succ_le_succ m)) (by decide)
 have a1:iB [.lst fz (ns.map .int),.int 10]=.ok (sD s):=by rw [<- e0];exact yH (a:=10)
 have a2:qY [.lst fz (ns.map .int),.int 500,sD s]=_:=Ca (a:=500) h
 have a3:qY [.lst fz (ns.map .int),.int 1000,sD s]=_:=Ca (a:=1000) h
 have f1:=wC (ns:=ns) (a:=500) h
 have f2:=wC (ns:=ns) (a:=1000) h
 generalize rN ns 500 s.1 (s.2.1.map .str)=xa at *
 generalize rN ns 1000 s.1 (s.2.1.map .str)=xb at *
 have ga:=lO f1
 have gb:=lO f2
 have lcb:=De (C:=Co) h f2 hb false
 have nw:=Ea (Cs:=Cs) h
 have sh:=xR (C:=Cs) h
 have lcs:=CW (Co:=Co) h (lS h) hb (mL h) (f:=false)
 have t:=tri h ga gb
 have h1:=Aa h ga
 have n1:(brS s (au s.2.1.length s.1 xa)).2.1.length=s.2.1.length:=ga.n
 have p1:db Co (cw [st3 (.str cO) (sD s) 0] []) [.lst false (xa.map .str)]=.ok (.int (ay s (au s.2.1.length s.1 xa):Int)) (cw [st3 (.str cO) (sD s) 0,st3 (.str aU) (sD (brS s (au s.2.1.length s.1 xa))) (0+(ay s (au s.2.1.length s.1 xa):Int))] []):=jS (Co:=Co) h f1 hb (f:=false) (l:=[]) (tk:=[]) (a:=.str cO) (c:=0) (by simp)
 have p2:db Co (cw [st3 (.str cO) (sD s) 0,st3 (.str aU) (sD (brS s (au s.2.1.length s.1 xa))) (0+(ay s (au s.2.1.length s.1 xa):Int))] []) [.lst false (xb.map .str)]=.ok (.int (ay (brS s (au s.2.1.length s.1 xa)) (au s.2.1.length s.1 xb):Int)) (cw [st3 (.str cO) (sD s) 0,st3 (.str aU) (sD (brS s (au s.2.1.length s.1 xa))) (0+(ay s (au s.2.1.length s.1 xa):Int)),st3 (.str aU) (sD (brS s (au s.2.1.length s.1 xb))) (0+(ay s (au s.2.1.length s.1 xa):Int)+(ay (brS s (au s.2.1.length s.1 xa)) (au s.2.1.length s.1 xb):Int))] []):=by
  have:=jS (Co:=Co) h1 (xs:=xb) (by rw [n1];exact f2) (by rw [n1];exact hb) (f:=false) (l:=[st3 (.str cO) (sD s) 0]) (tk:=[]) (a:=.str aU) (c:=0+(ay s (au s.2.1.length s.1 xa):Int)) (by simp)
  rw [n1] at this;exact this
 have h2:=Aa h gb
 have n2:(brS s (au s.2.1.length s.1 xb)).2.1.length=s.2.1.length:=gb.n
 have p3:db Co (cw [st3 (.str cO) (sD s) 0,st3 (.str aU) (sD (brS s (au s.2.1.length s.1 xa))) (0+(ay s (au s.2.1.length s.1 xa):Int)),st3 (.str aU) (sD (brS s (au s.2.1.length s.1 xb))) (0+(ay s (au s.2.1.length s.1 xa):Int)+(ay (brS s (au s.2.1.length s.1 xa)) (au s.2.1.length s.1 xb):Int))] []) [.lst false ((shR s).map .str)]=.ok (.int (ay (brS s (au s.2.1.length s.1 xb)) s.2.1:Int)) (cw [st3 (.str cO) (sD s) 0,st3 (.str aU) (sD (brS s (au s.2.1.length s.1 xa))) (0+(ay s (au s.2.1.length s.1 xa):Int)),st3 (.str aU) (sD (brS s (au s.2.1.length s.1 xb))) (0+(ay s (au s.2.1.length s.1 xa):Int)+(ay (brS s (au s.2.1.length s.1 xa)) (au s.2.1.length s.1 xb):Int)),st3 (.str aU) (sD s) (0+(ay s (au s.2.1.length s.1 xa):Int)+(ay (brS s (au s.2.1.length s.1 xa)) (au s.2.1.length s.1 xb):Int)+(ay (brS s (au s.2.1.length s.1 xb)) s.2.1:Int))] []):=by
  have:=jS (Co:=Co) h2 (xs:=shR s) (by rw [n2];exact lS h) (by rw [n2];exact hb) (f:=false) (l:=[st3 (.str cO) (sD s) 0,st3 (.str aU) (sD (brS s (au s.2.1.length s.1 xa))) (0+(ay s (au s.2.1.length s.1 xa):Int))]) (tk:=[]) (a:=.str aU) (c:=0+(ay s (au s.2.1.length s.1 xa):Int)+(ay (brS s (au s.2.1.length s.1 xa)) (au s.2.1.length s.1 xb):Int)) (by simp)
  rw [n2,show au s.2.1.length (brS s (au s.2.1.length s.1 xb)).1 (shR s)=s.2.1 from mL h] at this;exact this
 obtain ⟨f',l',tk',a',c',y9,h',e',lp⟩:=BP (Cp:=av) (Cs:=Cs) (Co:=Co) (p:=q.2.1) (fz:=fz) (ns:=ns) (x1:=vD (sD s)) (x2:=vD (.lst false (xa.map .str))) (x4:=vO av q.1 (cw [st3 (.str cO) (sD s) 0,st3 (.str aU) (sD (brS s (au s.2.1.length s.1 xa))) (0+(ay s (au s.2.1.length s.1 xa):Int)),st3 (.str aU) (sD (brS s (au s.2.1.length s.1 xb))) (0+(ay s (au s.2.1.length s.1 xa):Int)+(ay (brS s (au s.2.1.length s.1 xa)) (au s.2.1.length s.1 xb):Int)),st3 (.str aU) (sD s) (0+(ay s (au s.2.1.length s.1 xa):Int)+(ay (brS s (au s.2.1.length s.1 xa)) (au s.2.1.length s.1 xb):Int)+(ay (brS s (au s.2.1.length s.1 xb)) s.2.1:Int))] [])) (x5:=vD (.int (ay s (au s.2.1.length s.1 xa):Int))) (x6:=vD (.int (ay (brS s (au s.2.1.length s.1 xa)) (au s.2.1.length s.1 xb):Int))) (x7:=vD (.int (ay (brS s (au s.2.1.length s.1 xb)) s.2.1:Int))) (xs:=xb) xb.length 0 s [] [] (.str cO) 0 none h w m f2 (by omega) (by
  have:xb.length<=s.2.1.length:=by unfold bi at f2;rw [Bool.and_eq_true,decide_eq_true_eq] at f2;exact f2.1
  simp;omega) rfl
 have r1:cu [.int (xb.length:Int)]=.ok ((List.range' 0 xb.length).map fun (i:Nat)=>D.int (i:Int)):=by
  have:xb.length<=s.2.1.length:=by unfold bi at f2;rw [Bool.and_eq_true,decide_eq_true_eq] at f2;exact f2.1
  rw [<- List.range_eq_range'];exact tt (by omega)
 have sh':=xR (C:=Cs) h'
 have sm':=nF (l:=l') (tk:=tk') (a:=a') (s:=f') (c:=c')
 have ct:jh ((shR f').map D.str) none (some (xb.length:Int))=(xb.map fun x=>bf x [32]).map .str:=by
  rw [<- e',List.map_take];exact AD _ _
 have cm:=pG (ge:=lU "str" dM (rvz 0) (aa (csz [32]) nlz)) D.str (fun x=>.str (bf x [32])) [] xb none (fun x _=>rfl)
 have cl':neF (.lst false ((xb.map fun x=>bf x [32]).map .str)) (.lst false (xb.map fun x=>.str (bf x [32])))=some (.bl false):=by
  rw [List.map_map]
  refine yJ ?_
  show List.all _ (cl 9)=true
  rw [List.all_eq_true]
  intro x hx
  obtain ⟨t,_,rfl⟩:=List.mem_map.1 hx
  rfl
 have zl:(xb.map fun x=>D.str (bf x [32])).length<=sizeLine:=by
  have:xb.length<=s.2.1.length:=by unfold bi at f2;rw [Bool.and_eq_true,decide_eq_true_eq] at f2;exact f2.1
  have:=bL
  rw [List.length_map];omega
 have lb:fu [.lst false (xb.map D.str)]=some (.int (xb.length:Int)):=by rw [Gn,List.length_map]
 have q5:((ay s (au s.2.1.length s.1 xa):Int)+(ay (brS s (au s.2.1.length s.1 xa)) (au s.2.1.length s.1 xb):Int)+2<(ay s (au s.2.1.length s.1 xb):Int))=False:=eq_false (by omega)
 have s7:cT (cw [st3 (.str cO) (sD s) 0,st3 (.str aU) (sD (brS s (au s.2.1.length s.1 xa))) (0+(ay s (au s.2.1.length s.1 xa):Int)),st3 (.str aU) (sD (brS s (au s.2.1.length s.1 xb))) (0+(ay s (au s.2.1.length s.1 xa):Int)+(ay (brS s (au s.2.1.length s.1 xa)) (au s.2.1.length s.1 xb):Int)),st3 (.str aU) (sD s) (0+(ay s (au s.2.1.length s.1 xa):Int)+(ay (brS s (au s.2.1.length s.1 xa)) (au s.2.1.length s.1 xb):Int)+(ay (brS s (au s.2.1.length s.1 xb)) s.2.1:Int))] []) []=.rd (sD s):=nF (l:=[st3 (.str cO) (sD s) 0,st3 (.str aU) (sD (brS s (au s.2.1.length s.1 xa))) (0+(ay s (au s.2.1.length s.1 xa):Int)),st3 (.str aU) (sD (brS s (au s.2.1.length s.1 xb))) (0+(ay s (au s.2.1.length s.1 xa):Int)+(ay (brS s (au s.2.1.length s.1 xa)) (au s.2.1.length s.1 xb):Int))]) (tk:=[]) (a:=.str aU) (s:=s) (c:=0+(ay s (au s.2.1.length s.1 xa):Int)+(ay (brS s (au s.2.1.length s.1 xa)) (au s.2.1.length s.1 xb):Int)+(ay (brS s (au s.2.1.length s.1 xb)) s.2.1:Int))
 have t7:dg (cw [st3 (.str cO) (sD s) 0,st3 (.str aU) (sD (brS s (au s.2.1.length s.1 xa))) (0+(ay s (au s.2.1.length s.1 xa):Int)),st3 (.str aU) (sD (brS s (au s.2.1.length s.1 xb))) (0+(ay s (au s.2.1.length s.1 xa):Int)+(ay (brS s (au s.2.1.length s.1 xa)) (au s.2.1.length s.1 xb):Int)),st3 (.str aU) (sD s) (0+(ay s (au s.2.1.length s.1 xa):Int)+(ay (brS s (au s.2.1.length s.1 xa)) (au s.2.1.length s.1 xb):Int)+(ay (brS s (au s.2.1.length s.1 xb)) s.2.1:Int))] []) []=.rd (.int ((ay s (au s.2.1.length s.1 xa):Int)+(ay (brS s (au s.2.1.length s.1 xa)) (au s.2.1.length s.1 xb):Int)+(ay (brS s (au s.2.1.length s.1 xb)) s.2.1:Int))):=by
  have:=Br (l:=[st3 (.str cO) (sD s) 0,st3 (.str aU) (sD (brS s (au s.2.1.length s.1 xa))) (0+(ay s (au s.2.1.length s.1 xa):Int)),st3 (.str aU) (sD (brS s (au s.2.1.length s.1 xb))) (0+(ay s (au s.2.1.length s.1 xa):Int)+(ay (brS s (au s.2.1.length s.1 xa)) (au s.2.1.length s.1 xb):Int))]) (tk:=[]) (a:=.str aU) (s:=s) (c:=0+(ay s (au s.2.1.length s.1 xa):Int)+(ay (brS s (au s.2.1.length s.1 xa)) (au s.2.1.length s.1 xb):Int)+(ay (brS s (au s.2.1.length s.1 xb)) s.2.1:Int))
  rw [show (0:Int)+(ay s (au s.2.1.length s.1 xa):Int)+(ay (brS s (au s.2.1.length s.1 xa)) (au s.2.1.length s.1 xb):Int)+(ay (brS s (au s.2.1.length s.1 xb)) s.2.1:Int)=(ay s (au s.2.1.length s.1 xa):Int)+(ay (brS s (au s.2.1.length s.1 xa)) (au s.2.1.length s.1 xb):Int)+(ay (brS s (au s.2.1.length s.1 xb)) s.2.1:Int) by omega] at this ⊢;exact this
 have u7:cr (cw [st3 (.str cO) (sD s) 0,st3 (.str aU) (sD (brS s (au s.2.1.length s.1 xa))) (0+(ay s (au s.2.1.length s.1 xa):Int)),st3 (.str aU) (sD (brS s (au s.2.1.length s.1 xb))) (0+(ay s (au s.2.1.length s.1 xa):Int)+(ay (brS s (au s.2.1.length s.1 xa)) (au s.2.1.length s.1 xb):Int)),st3 (.str aU) (sD s) (0+(ay s (au s.2.1.length s.1 xa):Int)+(ay (brS s (au s.2.1.length s.1 xa)) (au s.2.1.length s.1 xb):Int)+(ay (brS s (au s.2.1.length s.1 xb)) s.2.1:Int))] []) []=.rd (.tup [.int 3,.int 0]):=rfl
 have cS:=JP s
 rw [List.nil_append] at lp
 clear e0 e1 e2 w2 m2 w m hb f1 f2 ga gb t h1 n1 h2 n2 h' e' h
 have nw':wY (fk Cs) 1 [sD s]=.ok (cw [st3 (.str cO) (sD s) 0] []):=nw
 generalize (ay s (au s.2.1.length s.1 xa):Int)=J1 at *
 generalize (ay (brS s (au s.2.1.length s.1 xa)) (au s.2.1.length s.1 xb):Int)=J2 at *
 generalize (ay (brS s (au s.2.1.length s.1 xb)) s.2.1:Int)=J3 at *
 generalize (ay s (au s.2.1.length s.1 xb):Int)=J4 at *
 generalize cw [st3 (.str cO) (sD s) 0,st3 (.str aU) (sD (brS s (au s.2.1.length s.1 xa))) (0+J1),st3 (.str aU) (sD (brS s (au s.2.1.length s.1 xb))) (0+J1+J2),st3 (.str aU) (sD s) (0+J1+J2+J3)] []=P3 at *
 generalize cw [st3 (.str cO) (sD s) 0,st3 (.str aU) (sD (brS s (au s.2.1.length s.1 xa))) (0+J1),st3 (.str aU) (sD (brS s (au s.2.1.length s.1 xb))) (0+J1+J2)] []=P2 at *
 generalize cw [st3 (.str cO) (sD s) 0,st3 (.str aU) (sD (brS s (au s.2.1.length s.1 xa))) (0+J1)] []=P1 at *
 generalize cw [st3 (.str cO) (sD s) 0] []=P0 at *
 generalize cw (l'++[st3 a' (sD f') c']) tk'=P9 at *
 generalize sD f'=S9 at *
 generalize sD s=S at *
 clear nw
 have k2:mkT [.int 3,.int 0]=.ok (.tup [.int 3,.int 0]):=rfl
 have z1:qm av (db Co) cT dg cr (fk Cs) iB qY (cR Co) (ut Cs) (ax 10 [.lst fz (ns.map .int)])=.nx [vL fz ns,vD S,none,none,none,none,none,none,none,none]:=by
  show qm av (db Co) cT dg cr (fk Cs) iB qY (cR Co) (ut Cs) [vL fz ns,none,none,none,none,none,none,none,none,none]=_
  unfold qm;clear lp;walk_at "run"
 have z2:tQ av (db Co) cT dg cr (fk Cs) iB qY (cR Co) (ut Cs) [vL fz ns,vD S,none,none,none,none,none,none,none,none]=.nx [vL fz ns,vD S,vD (.lst false (xa.map .str)),vD (.lst false (xb.map .str)),none,none,none,none,none,none]:=by
  unfold tQ;clear lp z1;walk_at "run"
 have z3:tP av (db Co) cT dg cr (fk Cs) iB qY (cR Co) (ut Cs) [vL fz ns,vD S,vD (.lst false (xa.map .str)),vD (.lst false (xb.map .str)),vO av q.1 P0,none,none,none,none,none]=.nx [vL fz ns,vD S,vD (.lst false (xa.map .str)),vD (.lst false (xb.map .str)),vO av q.1 P1,vD (.int J1),none,none,none,none]:=
  congrArg (fun o:O=>o.thenX fun d ρ'=>O.nx (List.set ρ' 5 (some (Sl.val d)))) (jU (n:=1) (p:=q.1) (ds:=[.lst false (xa.map .str)]) rfl rfl rfl p1)
 have z4:yV av (db Co) cT dg cr (fk Cs) iB qY (cR Co) (ut Cs) [vL fz ns,vD S,vD (.lst false (xa.map .str)),vD (.lst false (xb.map .str)),vO av q.1 P1,vD (.int J1),none,none,none,none]=.nx [vL fz ns,vD S,vD (.lst false (xa.map .str)),vD (.lst false (xb.map .str)),vO av q.1 P2,vD (.int J1),vD (.int J2),none,none,none]:=
  congrArg (fun o:O=>o.thenX fun d ρ'=>O.nx (List.set ρ' 6 (some (Sl.val d)))) (jU (n:=1) (p:=q.1) (ds:=[.lst false (xb.map .str)]) rfl rfl rfl p2)
 have z5:tz av (db Co) cT dg cr (fk Cs) iB qY (cR Co) (ut Cs) [vL fz ns,vD S,vD (.lst false (xa.map .str)),vD (.lst false (xb.map .str)),vO av q.1 P2,vD (.int J1),vD (.int J2),none,none,none]=.nx [vL fz ns,vD S,vD (.lst false (xa.map .str)),vD (.lst false (xb.map .str)),vO av q.1 P2,vD (.int J1),vD (.int J2),none,none,none]:=by
  unfold tz;clear lp z1 z2 z3 z4;walk_at "run"
 have z6:yp av (db Co) cT dg cr (fk Cs) iB qY (cR Co) (ut Cs) [vL fz ns,vD S,vD (.lst false (xa.map .str)),vD (.lst false (xb.map .str)),vO av q.1 P2,vD (.int J1),vD (.int J2),none,none,none]=.nx [vL fz ns,vD S,vD (.lst false (xa.map .str)),vD (.lst false (xb.map .str)),vO av q.1 P3,vD (.int J1),vD (.int J2),vD (.int J3),none,none]:=
  congrArg (fun o:O=>o.thenX fun d ρ'=>O.nx (List.set ρ' 7 (some (Sl.val d)))) (jU (n:=1) (p:=q.1) (ds:=[.lst false ((shR s).map .str)]) rfl (by rw [pP,xO (n:=1) (ds:=[S]) rfl rfl,sh];rfl) rfl p3)
 have z7:xZ av (db Co) cT dg cr (fk Cs) iB qY (cR Co) (ut Cs) [vL fz ns,vD S,vD (.lst false (xa.map .str)),vD (.lst false (xb.map .str)),vO av q.1 P3,vD (.int J1),vD (.int J2),vD (.int J3),none,none]=.nx [vL fz ns,vD S,vD (.lst false (xa.map .str)),vD (.lst false (xb.map .str)),vO av q.1 P3,vD (.int J1),vD (.int J2),vD (.int J3),none,none]:=
  (Ce ((FH (B6 (uB (b:=true) (p:=q.1) rfl s7) rfl cS)).trans (B6 (uB (b:=true) (p:=q.1) rfl t7) rfl rfl))).trans rfl
 unfold oQ oC zF ww
 rw [z1,zj,z2,zj]
 show az ((wY (fk Cs) 1 [S]).out _ _)=_
 rw [nw',R.ok_out]
 show az ((tP av (db Co) cT dg cr (fk Cs) iB qY (cR Co) (ut Cs) [vL fz ns,vD S,vD (.lst false (xa.map .str)),vD (.lst false (xb.map .str)),vO av q.1 P0,none,none,none,none,none]).seq _)=_
 rw [z3,zj,z4,zj,z5,zj,z6,zj,z7,zj]
 show az ((wY (fk Cs) 1 [S]).out _ _)=_
 rw [nw',R.ok_out]
 show az (sA av (db Co) cT dg cr (fk Cs) iB qY (cR Co) (ut Cs) [vL fz ns,vD S,vD (.lst false (xa.map .str)),vD (.lst false (xb.map .str)),vO av q.1 P3,vD (.int J1),vD (.int J2),vD (.int J3),vO av q.2.1 P0,none])=_
 unfold sA
 refine (congrArg az (iR (ρ1:=[vL fz ns,vD S,vD (.lst false (xa.map .str)),vD (.lst false (xb.map .str)),vO av q.1 P3,vD (.int J1),vD (.int J2),vD (.int J3),vO av q.2.1 P9,y9]) ?_)).trans ?_
 ·refine Eq.trans ?_ lp
  unfold yv
  rw [CB]
  clear z1 z2 z3 z4 z5 z6 z7 lp
  walk_at "run"
 refine (congrArg az (iR (ρ1:=[vL fz ns,vD S,vD (.lst false (xa.map .str)),vD (.lst false (xb.map .str)),vO av q.1 P3,vD (.int J1),vD (.int J2),vD (.int J3),vO av q.2.1 P9,y9]) ?_)).trans ?_
 ·have m8:=uB (F:=cT) (b:=true) (p:=q.2.1) (C:=av) (i:=8) (ρ:=[vL fz ns,vD S,vD (.lst false (xa.map .str)),vD (.lst false (xb.map .str)),vO av q.1 P3,vD (.int J1),vD (.int J2),vD (.int J3),vO av q.2.1 P9,y9]) rfl sm'
  have i0:hU [] [vL fz ns,vD S,vD (.lst false (xa.map .str)),vD (.lst false (xb.map .str)),vO av q.1 P3,vD (.int J1),vD (.int J2),vD (.int J3),vO av q.2.1 P9,y9]=[none]:=rfl
  have it:bU (.lst false (xb.map D.str))=.ok (xb.map .str):=rfl
  unfold sW
  refine (Ce ?_).trans rfl
  unfold gB2 L2.g2
  rw [JY,xO (n:=1) (ds:=[S9]) (by rw [pP,m8];rfl) rfl,sh']
  clear z1 z2 z3 z4 z5 z6 z7 lp m8
  walk_at "run"
 have e1:=uB (F:=cr) (b:=true) (p:=q.1) (C:=av) (i:=4) (ρ:=[vL fz ns,vD S,vD (.lst false (xa.map .str)),vD (.lst false (xb.map .str)),vO av q.1 P3,vD (.int J1),vD (.int J2),vD (.int J3),vO av q.2.1 P9,y9]) rfl u7
 have e2:eqF (.int 0) (.int 0)=some (.bl true):=rfl
 have e3:eqF (.tup [.int 3,.int 0]) (.tup [.int 3,.int 0])=some (.bl true):=rfl
 unfold sB
 rw [AO,Ht,E2]
 unfold L2.g2
 rw [e1]
 clear z1 z2 z3 z4 z5 z6 z7 lp e1
 walk_at "run"
end Q93
namespace Q
open PySem PySem.Spec PyProof.Rows L2
theorem ph (h:us.length=1):∃ a,us=[a]:=by
 match us,h with
 | [a],_=>exact ⟨a,rfl⟩
theorem wj (h:us.length=2):∃ a b,us=[a,b]:=by
 match us,h with
 | [a,b],_=>exact ⟨a,b,rfl⟩
theorem Ae (h:us.length=3):∃ a b c,us=[a,b,c]:=by
 match us,h with
 | [a,b,c],_=>exact ⟨a,b,c,rfl⟩
theorem FD (h:us.length=4):∃ a b c d,us=[a,b,c,d]:=by
 match us,h with
 | [a,b,c,d],_=>exact ⟨a,b,c,d,rfl⟩
theorem K3 (h:us.length=5):∃ a b c d e,us=[a,b,c,d,e]:=by
 match us,h with
 | [a,b,c,d,e],_=>exact ⟨a,b,c,d,e,rfl⟩
theorem EV {K:PySem.W.Frag} {hp:Heap} {mg:Str->Option Value} {bm:List Value} {nid:String} (kin:K.In hp) (gl:hp.Ns mainGlobals mg) (e1:PySem.W.nsIn K mainGlobals x=some (some (.ref C))) (e2:PySem.W.excIn K C bm nid=true):OwnCls x C bm nid mg hp:=by
 constructor
 ·exact PySem.W.mg_of kin gl e1
 ·unfold PySem.W.excIn at e2
  split at e2
  ·rename_i dct kl sls look
   split at e2
   ·rename_i C0 more s0 s1 s2 s3 nw s5 hmro hsls
    simp only [Bool.and_eq_true,beq_iff_eq,Bool.not_eq_true'] at e2
    obtain ⟨⟨⟨⟨⟨eC,en⟩,edel⟩,etail⟩,ens⟩,einit⟩:=e2
    obtain ⟨f1,f2,f3,f4,f5,f6,f7,f8,f9,f10,f11⟩:=kl
    dsimp only at hmro edel ens einit
    have es:sls = #[s0,s1,s2,s3,some (.builtin nw),s5]:=by
     obtain ⟨ls⟩:=sls
     simp only at hsls
     rw [hsls]
    subst hmro edel es eC en
    exact ⟨more,f4,f1,f5,f2,f6,f7,f8,f9,f10,dct,s0,s1,s2,s3,s5,_,kin _ _ look,.of_isNs (PySem.W.isNs_of_in kin ens),PySem.W.nsMap_none_of_in kin ens einit,PySem.W.tail_of_in kin etail⟩
   ·cases e2
  ·cases e2
theorem B3 {K:PySem.W.Frag} {hp:Heap} {mg:Str->Option Value} (kin:K.In hp) (gl:hp.Ns mainGlobals mg) (e1:PySem.W.nsIn K mainGlobals x=some (some (.ref C))) (e2:PySem.W.excIn K C [.type "ValueError",.type "Exception",.type "BaseException",.type "object"] "ValueError.__new__"=true):Ref x C mg hp:=
 ⟨_,_,_,_,EV kin gl e1 e2,PySem.F.excBase_ValueError⟩
theorem pv {K:PySem.W.Frag} {G:Hp}:∀ ns:List Int,Reps K G (ns.map V.int) (ns.map D.int)
 | []=>.nil
 | i::ns=>.cons (.int i) (pv ns)
noncomputable def AS:List D->R D
 | [.lst _ ds]=>match oj ds with
  | some _=>.ok (.bl true)
  | none=>.no
 | _=>.no
theorem KJ {l:PySem.W.OpenLaw} {q:Program} {XP:(Str->Option Value)->Heap->Prop} {YP:World->Heap->Prop} {d:DefRec} {K:Params->PySem.W.Frag} {L:Nat} (hL:Room L callerA) (hn:l.most=some 63) (hdf:d.params.defaults=[])
 (hY:∀ (w:World) (h:Heap),YP w h->(K w.params).In h)
 (F:∀ (w:World) (mg:Str->Option Value) (fa:Addr) (h:Heap),(K w.params).In h->h.Ns mainGlobals mg->mg d.name=some (.ref fa)->
 ∃ fd:FuncData,(∀ (s:Shared) (u:Value),BindsTo s fd ⟨[u],[]⟩ [("_law_script",u)])/\∀ base:Heap,(K w.params).In base->base.Ns mainGlobals mg->FnF l.prog w (K w.params) mg base L fa fd ["_law_script"] AS) :
  PySem.W.WalkO q loose XP YP l.row.toRowW d [] (fun f vs=>PySem.call f vs):=
 L2.wK (n:=63) (k:=L) (x:="_law_script") (CX:=fun w=>CXo l.prog w) (sp:=fun w vs H Q E=>vs.length=1/\spF (K w.params) AS vs H Q E) hn (by decide) hdf hL hY F
  (fun w H a ns hl hO hS=>⟨rfl,H,[.lst true (ns.map .int)],.refl _,.cons (.fls hS (pv ns)) .nil,by
   have e:AS [.lst true (ns.map .int)]=.ok (.bl true):=by simp only [AS,pK]
   rw [e]
   exact fun v G' H' u r=>r.bl_inv⟩)
  fun w H s e s' z=>by obtain ⟨a,C,H',_,_,z⟩:=z;exact z
theorem bc {K:PySem.W.Frag} {mg:Str->Option Value} {kV doc pm ct:Value} (X:K.In h) (G:h.Ns mainGlobals mg) (a:PySem.W.nsIn K mainGlobals x=some (some (.ref f)))
 (l:K.lookup f=some ⟨oc,od,.func (PySem.W.fnOf x x (dN st) (aZ st) (ag st) .none kV doc pm an cdv ct),osl⟩) (c:PySem.W.codeIn K cdv x=true) (k:PySem.W.keepIn K (.ref f)=true):∃ f fd,Fun K x x st f fd/\mg x=some (.ref f):=
 ⟨f,_,yY l c k,PySem.W.mg_of X G a⟩
theorem lI {K:PySem.W.Frag} {kV doc pm ct:Value} (a:PySem.W.findIn K (.ref C) x=some (some (.ref f))) (i:PySem.W.isFn K (.ref f)=true)
 (l:K.lookup f=some ⟨oc,od,.func (PySem.W.fnOf x qual (dN st) (aZ st) (ag st) .none kV doc pm an cdv ct),osl⟩) (c:PySem.W.codeIn K cdv qual=true) (k:PySem.W.keepIn K (.ref f)=true):∃ f fd,Fun K x qual st f fd/\Meth K C x f:=
 ⟨f,_,yY l c k,⟨a,i,k⟩⟩
theorem Ds {K:PySem.W.Frag} {kV doc pm ct:Value} (a:PySem.W.findIn K (.ref C) "__init__"=some (some (.ref f))) (i:PySem.W.isFn K (.ref f)=true)
 (l:K.lookup f=some ⟨oc,od,.func (PySem.W.fnOf "__init__" qual (dN st) (aZ st) (ag st) .none kV doc pm an cdv ct),osl⟩) (c:PySem.W.codeIn K cdv qual=true) (k:PySem.W.keepIn K (.ref f)=true) (mk:PySem.W.makesIn K C=true) (kc:PySem.W.keepIn K (.ref C)=true) :
  ∃ f fd,Fun K "__init__" qual st f fd/\Mk K C f:=⟨f,_,yY l c k,⟨mk,a,i,kc⟩⟩
theorem EF {K:PySem.W.Frag} (ne:C≠DC) (pg:PySem.W.plainGet K C Str.empty=true) (hd:PySem.W.hasDictIn K C=true) (po:PySem.W.plainOver K C=true) (sa:PySem.W.findIn K (.ref C) "__setattr__"=some (some (.builtin "object.__setattr__"))):CF K C []:=
 ⟨⟨pg,hd,po,sa⟩,ne,fun k hk=>by simp at hk⟩
theorem wG {K:PySem.W.Frag} (k:Nat) (h:CF K C ks) (hk:k<fnames.length) (e:cP k=x) (n:PySem.W.findIn K (.ref C) x=some none):CF K C (k::ks):=
 ⟨h.cl,h.ne,fun j hj=>by
  rcases List.mem_cons.1 hj with rfl|hj
  ·exact ⟨hk,by unfold NoAttr;rw [e];exact n⟩
  ·exact h.na j hj⟩
section
variable {w:World} {K:PySem.W.Frag} {mg:Str->Option Value} {base:Heap} {n:Nat} {G:MF}
theorem lF (F:Fun K x qual st f fd) (m:Meth K C x f) (ok:FnM P w K mg base k f fd ps C G)
 (h:∀ (kV doc pm:Value) (an:Option Addr) (cdv ct:Value) (us:List Value),us.length=ps.length->bindArgs (PySem.W.fnOf x qual (dN st) (aZ st) (ag st) .none kV doc pm an cdv ct) ⟨us,[]⟩=pure (ps.zip us)) (e:ps.length=n+1):MCallee P w K mg base C x k n G:=
 ⟨⟨f,fd,ps,ok,m,F.binds h,e⟩⟩
theorem yI {n:Nat} (F:Fun K x x st f fd) (hm:mg x=some (.ref f)) (ok:FnM P w K mg base k f fd ps C G)
 (h:∀ (kV doc pm:Value) (an:Option Addr) (cdv ct:Value) (us:List Value),us.length=ps.length->bindArgs (PySem.W.fnOf x x (dN st) (aZ st) (ag st) .none kV doc pm an cdv ct) ⟨us,[]⟩=pure (ps.zip us)) (e:ps.length=n+1):CalleeM P w K mg base C x k n G:=
 ⟨f,fd,ps,ok,hm,F.kp,F.binds h,e⟩
theorem mkc {cn:Str} (F:Fun K x qual st f fd) (m:Mk K C f) (hc:mg cn=some (.ref C)) (ne:C≠DC) (ok:FnM P w K mg base k f fd ps C G)
 (h:∀ (kV doc pm:Value) (an:Option Addr) (cdv ct:Value) (us:List Value),us.length=ps.length->bindArgs (PySem.W.fnOf x qual (dN st) (aZ st) (ag st) .none kV doc pm an cdv ct) ⟨us,[]⟩=pure (ps.zip us)) (e:ps.length=n+1):MkC P w K mg base C cn k n G:=
 ⟨⟨f,fd,ps,ok,m,hc,F.binds h,e⟩,ne⟩
theorem zZ {cn:Str} (c:MkC P w K mg base C cn k n G) (k':Nat) (h:k<=k':=by decide):MkC P w K mg base C cn k' n G:=by
 obtain ⟨f,fd,ps,M,hm,hg,hb,e⟩:=c.ex
 exact ⟨⟨f,fd,ps,{ M with run:=fun A outer s H args us vs Q E hr=>M.run A outer s H args us vs Q E (hr.mono h) },hm,hg,hb,e⟩,c.ne⟩
end
theorem CC {α:Type} {g:α->List D->R D} (h:∀ (ns:List Int) (fz:Bool) (q:α),g q [.lst fz (ns.map .int)]=.ok (.bl true)):∀ ds:List D,ds.length=1->AS ds=.no\/∀ q,g q ds=AS ds:=by
 intro ds hl
 match ds,hl with
 | [d],_=>
  cases d <;> first|exact Or.inl rfl|skip
  rename_i fz ds hl
  cases hi:oj ds with
  | none=>exact Or.inl (by simp only [AS,hi])
  | some ns=>
   have e:=tq hi
   subst e
   refine Or.inr fun q=>?_
   rw [h ns fz q]
   simp only [AS,hi]
theorem jq {K:PySem.W.Frag} {its:Array Value} {n:Nat} (l:K.lookup a=some ⟨.type "tuple",od,.seq its n,osl⟩) (hz:its.size<=sizeLine) (v:Vals vs its.toList) (r:∀ G,Reps K G vs ds):jT K a (.tup ds):=A2 l rfl rfl hz v r
theorem lr {K:PySem.W.Frag} {mg:Str->Option Value} (X:K.In h) (G:h.Ns mainGlobals mg) (e:PySem.W.nsIn K mainGlobals x=some (some (.ref a))) (k:jT K a (.tup ds)):∃ a,mg x=some (.ref a)/\jT K a (.tup ds):=
 ⟨a,PySem.W.mg_of X G e,k⟩
end Q
namespace G93
open PySem PySem.Spec PyProof.Rows L2 Q Q93
local macro_rules | `(tactic| walk_at "s") => `(tactic| exact ⟨rfl,rfl,rfl,by decide +kernel,rfl,by decide +kernel,by decide +kernel⟩)
local macro_rules | `(tactic| walk_at "1") => `(tactic| (intro _ _ _ _ _ _ us hl;obtain ⟨a,z⟩:=ph hl;subst z;rfl))
local macro_rules | `(tactic| walk_at "2") => `(tactic| (intro _ _ _ _ _ _ us hl;obtain ⟨a,b,z⟩:=wj hl;subst z;rfl))
local macro_rules | `(tactic| walk_at "3") => `(tactic| (intro _ _ _ _ _ _ us hl;obtain ⟨a,b,c,z⟩:=Ae hl;subst z;rfl))
local macro_rules | `(tactic| walk_at "4") => `(tactic| (intro _ _ _ _ _ _ us hl;obtain ⟨a,b,c,d,z⟩:=FD hl;subst z;rfl))
local macro_rules | `(tactic| walk_at "5") => `(tactic| (intro _ _ _ _ _ _ us hl;obtain ⟨a,b,c,d,e,z⟩:=K3 hl;subst z;rfl))
noncomputable abbrev top (i:Nat):Stmt:=PySem.Challenge.pw_screenlines_k93_whole_costs_held.main.body.getD i (.Pass ⟨0,0,0,0⟩)
noncomputable abbrev FUz (K:PySem.W.Frag) (n:Str) (i:Nat):=Fun K n n (top i)
section
variable {w:World} {K:PySem.W.Frag} {mg:Str->Option Value} {base:Heap}
theorem sJ:FnScope ["_law_script","_law_k"] ["_law_script","_law_k"] (ag (top 55)):=by walk_at "s"
theorem rB:FnScope ["_law_script","_law_k","_law_many","_law_drawn"] ["_law_script","_law_k","_law_many"] (ag (top 56)):=by walk_at "s"
theorem vg:FnScope ["_law_script","_law_at","_law_width","_law_made","_law_k","_law_long"] ["_law_script","_law_at","_law_width"] (ag (top 57)):=by walk_at "s"
theorem oF:FnScope ["_law_script","_law_at","_law_width","_law_many","_law_rows"] ["_law_script","_law_at","_law_width","_law_many"] (ag (top 58)):=by walk_at "s"
theorem sw:FnScope ["_law_script","_law_at"] ["_law_script","_law_at"] (ag (top 59)):=by walk_at "s"
theorem rG:FnScope ["_law_script","_law_at","_law_screen_here","_law_made","_law_k","_law_row_here","_law_way","_law_spot"] ["_law_script","_law_at","_law_screen_here"] (ag (top 60)):=by walk_at "s"
theorem rM:FnScope ["thing"] ["thing"] (ag (top 6)):=by walk_at "s"
theorem qI:FnScope ["thing","low","high"] ["thing","low","high"] (ag (top 7)):=by walk_at "s"
theorem rV:FnScope ["thing"] ["thing"] (ag (top 8)):=by walk_at "s"
theorem jO:FnScope ["thing","width"] ["thing","width"] (ag (top 12)):=by walk_at "s"
theorem sO:FnScope ["thing","width","many"] ["thing","width","many"] (ag (top 13)):=by walk_at "s"
theorem qp:FnScope ["thing","width"] ["thing"] (ag (top 14)):=by walk_at "s"
theorem lL:FnScope ["thing"] ["thing"] (ag (top 15)):=by walk_at "s"
theorem sX:FnScope ["screen","thing"] ["screen","thing"] (ag (top 17)):=by walk_at "s"
theorem oG:FnScope ["screen","thing"] ["screen","thing"] (ag (top 18)):=by walk_at "s"
theorem pI:FnScope ["screen","rows","width","missing"] ["screen","rows"] (ag (top 19)):=by walk_at "s"
theorem mT:FnScope ["order"] ["order"] (ag (top 29)):=by walk_at "s"
theorem pB:FnScope ["plan"] ["plan"] (ag (top 39)):=by walk_at "s"
theorem zC:FnScope ["plans","state","plan"] ["plans","state","plan"] (ag (top 40)):=by walk_at "s"
theorem A4 (lh:Callee P w K mg base "plan_cost" 1 1 aX) (ok:cW DC (eV aX) 3 F) (Fn:FUz K "offer" 40 f fd):FnM P w K mg base 2 f fd ["plans","state","plan"] DC F:=by
 refine Fn.okM zC ok (k:=1) fun _ _ _ _ _ _ hr=>?_
 have hu:=hr.units
 exact (af (iC (pO (jB (ET 0 hu (ae at1)) (fZ (A1 (aF lh hr (ac (ae at2) ad)) (aF lh hr (ac (qF 0 hu (ae at1)) ad)))))) (af (GU 0 hu (ae at2) (ae at1)) aE) aE) aE)
theorem ik:FnScope ["plans","state","plan","order"] ["plans","state","plan","order"] (ag (top 41)):=by walk_at "s"
theorem ip {I_offer:MF} (gH:Callee P w K mg base "order_cost" 2 1 bH) (rH:CalleeM P w K mg base DC "offer" 2 2 I_offer) (ok:cW DC (bd I_offer bH) 4 F) (Fn:FUz K "offer_with_order" 41 f fd):FnM P w K mg base 3 f fd ["plans","state","plan","order"] DC F:=by
 exact Fn.okM ik ok (k:=2) fun _ _ _ _ _ _ hr=>(af (mD (mO 0 rH hr (ac (ae at1) (ac (eR (ac (aV (bb (ae at2) ak) (aF gH hr (ac (ae at3) ad))) (ac (aV (bb (ae at2) ak) (eR (ac (ae at3) ad))) ad))) ad)))) aE)
theorem nu:FnScope ["plans","number","column","more"] ["plans","number","column"] (ag (top 42)):=by walk_at "s"
theorem nB (pw:mg "dict"=none) (aQ:mg "ELSEWHERE"=some (.ref a_ELSEWHERE)) (bn:jT K a_ELSEWHERE (D.tup [D.bl false,D.bl false])) (de:mg "HERE"=some (.ref a_HERE)) (fg:jT K a_HERE (D.tup [D.bl true,D.bl false])) (aS:mg "HERE_WIPED"=some (.ref a_HERE_WIPED)) (bu:jT K a_HERE_WIPED (D.tup [D.bl true,D.bl true])) (aG:mg "ELSEWHERE_WIPED"=some (.ref a_ELSEWHERE_WIPED)) (aO:jT K a_ELSEWHERE_WIPED (D.tup [D.bl false,D.bl true])) (bD:CalleeM P w K mg base DC "offer_with_order" 3 3 I_offer_with_order) (hg:∀ ds:List D,ds.length=3->gr ds=.no\/∀ q,az (bV I_offer_with_order q (ax 4 ds))=gr ds) (Fn:FUz K "with_moves" 42 f fd):FnF P w K mg base 4 f fd ["plans","number","column"] gr:=by
 have hN:(["plans","number","column","more"]:List Str).Nodup:=by decide
 refine Fn.okA nu (k:=3) (g:=bV I_offer_with_order) hg fun cdv A outer s H E hr=>?_
 have hu:=hr.units
 have h_1:PSF (gj (CXo P w) P w K mg base ["plans","number","column","more"] "with_moves" (ag (top 42)) f cdv A outer s H E) ((aZ (top 42)).getD 1 (.Pass ⟨0,0,0,0⟩)) (dz I_offer_with_order):=(iC (AY 3 hu (aW rfl aQ bn)) (af (mD (mO 3 bD hr (ac (aW rfl de fg) (ac (qF 3 hu (aW rfl aQ bn)) (ac (eR (ac (bO (l:=[103,111]) rfl (by decide)) (ac (ae at1) (ac (ae at2) ad)))) ad))))) aE) aE)
 have h_2:PSF (gj (CXo P w) P w K mg base ["plans","number","column","more"] "with_moves" (ag (top 42)) f cdv A outer s H E) ((aZ (top 42)).getD 2 (.Pass ⟨0,0,0,0⟩)) (dl I_offer_with_order):=(iC (AY 3 hu (aW rfl de fg)) (af (mD (mO 3 bD hr (ac (aW rfl aS bu) (ac (qF 3 hu (aW rfl de fg)) (ac (eR (ac (bO (l:=[119,105,112,101]) rfl (by decide)) ad)) ad))))) aE) aE)
 have h_3:PSF (gj (CXo P w) P w K mg base ["plans","number","column","more"] "with_moves" (ag (top 42)) f cdv A outer s H E) ((aZ (top 42)).getD 3 (.Pass ⟨0,0,0,0⟩)) (dv I_offer_with_order):=(iC (AY 3 hu (aW rfl aG aO)) (af (mD (mO 3 bD hr (ac (aW rfl aS bu) (ac (qF 3 hu (aW rfl aG aO)) (ac (eR (ac (bO (l:=[103,111]) rfl (by decide)) (ac (ae at1) (ac (ae at2) ad)))) ad))))) aE) aE)
 have h_4:PSF (gj (CXo P w) P w K mg base ["plans","number","column","more"] "with_moves" (ag (top 42)) f cdv A outer s H E) ((aZ (top 42)).getD 4 (.Pass ⟨0,0,0,0⟩)) (iM I_offer_with_order):=(Bw 3)
 exact (zy 3 hN rfl pw (ae at0) (rj (af h_1 (af h_2 (af h_3 (af h_4 aE))))))
theorem kq:FnScope ["plans","old","new","further","state","plan","wiped"] ["plans","old","new"] (ag (top 43)):=by walk_at "s"
theorem kB {I_offer:MF} (bD:CalleeM P w K mg base DC "offer_with_order" 3 3 I_offer_with_order) (rH:CalleeM P w K mg base DC "offer" 3 2 I_offer) (hg:∀ ds:List D,ds.length=3->gr ds=.no\/∀ q,az (bT I_offer_with_order I_offer q (ax 7 ds))=gr ds) (Fn:FUz K "stepped_over" 43 f fd):FnF P w K mg base 4 f fd ["plans","old","new"] gr:=by
 have hN:(["plans","old","new","further","state","plan","wiped"]:List Str).Nodup:=by decide
 refine Fn.okA kq (k:=3) (g:=bT I_offer_with_order I_offer) hg fun cdv A outer s H E hr=>?_
 have hu:=hr.units
 have h_1:PSF (gj (CXo P w) P w K mg base ["plans","old","new","further","state","plan","wiped"] "stepped_over" (ag (top 43)) f cdv A outer s H E) ((aZ (top 43)).getD 1 (.Pass ⟨0,0,0,0⟩)) (cf I_offer_with_order I_offer):=(qO PassesOwn.leaving rfl (xg (ae at0)) (rZ rfl (eY 4 hN (eY 5 hN nK))) (af (cX at6 hN (bb (ae at4) ak)) (af (iC (Gy (bb (ae at4) ak)) (af (mD (mO 3 bD hr (ac (eR (ac jJ (ac (ae at6) ad))) (ac (ae at5) (ac (eR (ac (bO (l:=[115,97,121]) rfl (by decide)) (ac (ae at2) ad))) ad))))) aE) aE) (af (iC (vK hu (AH (Cj (ae at6)) (bO (l:=[32]) rfl (by decide)) (ae at1)) (ae at2)) (af (mD (mO 3 rH hr (ac (eR (ac jJ (ac (ae at6) ad))) (ac (ae at5) ad)))) aE) aE) aE))) (hn:=lJ _))
 have h_2:PSF (gj (CXo P w) P w K mg base ["plans","old","new","further","state","plan","wiped"] "stepped_over" (ag (top 43)) f cdv A outer s H E) ((aZ (top 43)).getD 2 (.Pass ⟨0,0,0,0⟩)) (dR I_offer_with_order I_offer):=(Bw 3)
 exact (D7 3 hN (rj (af h_1 (af h_2 aE))))
theorem As:FnScope ["plans","number","old","new","begin","current","column"] ["plans","number","old","new","begin"] (ag (top 44)):=by walk_at "s"
theorem sI:FnScope ["plans","states"] ["plans","states"] (ag (top 45)):=by walk_at "s"
theorem fO:FnScope ["number","old","new","plans"] ["number","old","new"] (ag (top 46)):=by walk_at "s"
theorem iT:FnScope ["number","old","new","place","plans","right","left"] ["number","old","new","place"] (ag (top 47)):=by walk_at "s"
theorem gZ:FnScope ["number","old","new","place","plans"] ["number","old","new","place"] (ag (top 48)):=by walk_at "s"
theorem yZ:FnScope ["thing"] ["thing"] (ag (top 24)):=by walk_at "s"
theorem zE:FnScope ["thing"] ["thing"] (ag (top 25)):=by walk_at "s"
theorem sM:FnScope ["thing"] ["thing"] (ag (top 26)):=by walk_at "s"
theorem md:FnScope ["thing"] ["thing"] (ag (top 27)):=by walk_at "s"
theorem kL:FnScope ["thing","order"] ["thing"] (ag (top 28)):=by walk_at "s"
theorem ju:FnScope ["one","other","text"] ["one","other"] (ag (top 31)):=by walk_at "s"
theorem qS:FnScope ["orders","short","order","both"] ["orders"] (ag (top 32)):=by walk_at "s"
theorem zD:FnScope ["screen","rows","wanted","own","orders","number","row"] ["screen","rows"] (ag (top 49)):=by walk_at "s"
theorem Dg:FnScope ["orders"] ["orders"] (ag (top 30)):=by walk_at "s"
theorem mY:FnScope ["screen","rows"] ["screen","rows"] (ag (top 50)):=by walk_at "s"
theorem Ay:FnScope ["screen"] ["screen"] (ag (top 16)):=by walk_at "s"
theorem qM:FnScope ["self"] ["self"] (ag (br (top 53) 1)):=by walk_at "s"
theorem qz (bg:CF K av [0,1]) (ok:cW av (iV av) 1 F) (Fn:Fun K "sheet" "Pad.sheet" (br (top 53) 1) f fd):FnM P w K mg base 1 f fd ["self"] av F:=by
 exact Fn.okM qM ok (k:=0) fun _ _ _ _ _ _ hr=>(af (bq (bb (wL 0 0 bg (by decide) (Bj ak)) ak)) aE)
theorem pE:FnScope ["self"] ["self"] (ag (br (top 53) 2)):=by walk_at "s"
theorem qE (bg:CF K av [0,1]) (ok:cW av (iL av) 1 F) (Fn:Fun K "spent" "Pad.spent" (br (top 53) 2) f fd):FnM P w K mg base 1 f fd ["self"] av F:=by
 exact Fn.okM pE ok (k:=0) fun _ _ _ _ _ _ hr=>(af (bq (bb (wL 0 0 bg (by decide) (Bj ak)) ak)) aE)
theorem mj:FnScope ["self","step","screen","price"] ["self","step","screen","price"] (ag (br (top 53) 3)):=by walk_at "s"
theorem ma (bg:CF K av [0,1]) (ii:MCallee P w K mg base av "spent" 1 0 am) (ok:cW av (gC av am) 4 F) (Fn:Fun K "step_to" "Pad.step_to" (br (top 53) 3) f fd):FnM P w K mg base 2 f fd ["self","step","screen","price"] av F:=by
 exact Fn.okM mj ok (k:=1) fun _ _ _ _ _ _ hr=>(af (F0 0 0 bg (by decide) (eR (ac (ae at1) (ac (ae at2) (ac (aV (fC 0 bg ii hr) (ae at3)) ad))))) (af (xi 0 1 bg (by decide) (qN ad)) aE))
theorem ql:FnScope ["self","rows","screen","price"] ["self","rows"] (ag (br (top 53) 6)):=by walk_at "s"
theorem pN {dA:MF} (bN:mg "tuple"=none) (eG:Callee P w K mg base "least_cost" 9 2 ah) (ij:Callee P w K mg base "full_rows" 9 2 bw) (bg:CF K av [0,1]) (dP:MCallee P w K mg base av "sheet" 9 0 ai) (ox:MCallee P w K mg base av "step_to" 9 3 dA) (ok:cW av (iS av ai dA ah bw) 4 F) (Fn:Fun K "bring" "Pad.bring" (br (top 53) 6) f fd):FnM P w K mg base 10 f fd ["self","rows"] av F:=by
 have hN:(["self","rows","screen","price"]:List Str).Nodup:=by decide
 exact Fn.okM ql ok (k:=9) fun _ _ _ _ _ _ hr=>(af (cX at2 hN (fC 0 bg dP hr)) (af (cX at3 hN (aF eG hr (ac (ae at2) (ac (ae at1) ad)))) (af (yP 0 bg ox hr (ac (bO (l:=[98,114,105,110,103]) rfl (by decide)) (ac (eR (ac (bb (ae at2) ak) (ac (qf rfl bN (ac (aF ij hr (ac (ae at2) (ac (ae at1) ad))) ad)) (ac (bb (ae at2) ak) ad)))) (ac (ae at3) ad)))) (af (GC (ae at3)) aE))))
theorem oU:FnScope ["self"] ["self"] (ag (br (top 53) 9)):=by walk_at "s"
theorem nN (bh:mg "len"=none) (bg:CF K av [0,1]) (ok:cW av (ib av) 1 F) (Fn:Fun K "counts" "Pad.counts" (br (top 53) 9) f fd):FnM P w K mg base 1 f fd ["self"] av F:=by
 exact Fn.okM oU ok (k:=0) fun _ _ _ _ _ _ hr=>(af (bq (eR (ac (mJ (uC 0 0 bg (by decide) rfl bh) ak) (ac (uC 0 1 bg (by decide) rfl bh) ad)))) aE)
theorem rW:FnScope ["self","screen"] ["self","screen"] (ag (br (top 53) 0)):=by walk_at "s"
theorem rP {BB:Tok} (jZ:mg "MADE"=some (.str "made" BB)) (cy:Callee P w K mg base "check_screen" 5 1 aN) (bg:CF K av [0,1]) (ok:cW av (jF av aN) 2 F) (Fn:Fun K "__init__" "Pad.__init__" (br (top 53) 0) f fd):FnM P w K mg base 6 f fd ["self","screen"] av F:=by
 exact Fn.okM rW ok (k:=5) fun _ _ _ _ _ _ hr=>(af (kJ (aF cy hr (ac (ae at1) ad))) (af (xi 0 0 bg (by decide) (qN (ac (eR (ac (Ba (l:=[109,97,100,101]) rfl jZ rfl (by decide)) (ac (ae at1) (ac ak ad)))) ad))) (af (xi 0 1 bg (by decide) (qN ad)) aE)))
theorem Hj:FnScope ["_law_script","_law_screen_here","_law_one","_law_other","_law_pad","_law_there","_law_on","_law_home","_law_first","_law_k"] ["_law_script"] (ag (top 61)):=by walk_at "s"
theorem GP {ao aj aw:MF} {ar aq aL:List D->R D} (bh:mg "len"=none) (cJ:mg "range"=none) (sU:Callee P w K mg base "_law_some" 10 2 ar) (kP:Callee P w K mg base "_law_goal" 10 3 aq) (eG:Callee P w K mg base "least_cost" 10 2 ah) (oa:Callee P w K mg base "shown" 10 1 aL) (bg:CF K av [0,1]) (fF:MCallee P w K mg base av "bring" 10 1 ao) (dP:MCallee P w K mg base av "sheet" 10 0 ai) (ii:MCallee P w K mg base av "spent" 10 0 am) (qr:MCallee P w K mg base av "counts" 10 0 aj) (BM:MkC P w K mg base av "Pad" 9 1 aw) (hg:∀ ds:List D,ds.length=1->gr ds=.no\/∀ q,az (oQ av ao ai am aj aw ar aq ah aL q (ax 10 ds))=gr ds) (Fn:FUz K "law" 61 f fd):FnF P w K mg base 11 f fd ["_law_script"] gr:=by
 have hN:(["_law_script","_law_screen_here","_law_one","_law_other","_law_pad","_law_there","_law_on","_law_home","_law_first","_law_k"]:List Str).Nodup:=by decide
 refine Fn.okA Hj (k:=10) (g:=oQ av ao ai am aj aw ar aq ah aL) hg fun cdv A outer s H E hr=>?_
 have hu:=hr.units
 have h_0:PSF (gj (CXo P w) P w K mg base ["_law_script","_law_screen_here","_law_one","_law_other","_law_pad","_law_there","_law_on","_law_home","_law_first","_law_k"] "law" (ag (top 61)) f cdv A outer s H E) ((aZ (top 61)).getD 0 (.Pass ⟨0,0,0,0⟩)) (qm av ao ai am aj aw ar aq ah aL):=(cX at1 hN (aF sU hr (ac (ae at0) (ac ak ad))))
 have h_1:PSF (gj (CXo P w) P w K mg base ["_law_script","_law_screen_here","_law_one","_law_other","_law_pad","_law_there","_law_on","_law_home","_law_first","_law_k"] "law" (ag (top 61)) f cdv A outer s H E) ((aZ (top 61)).getD 1 (.Pass ⟨0,0,0,0⟩)) (tQ av ao ai am aj aw ar aq ah aL):=(IR 2 3 rfl hN (ac (aF kP hr (ac (ae at0) (ac ak (ac (ae at1) ad)))) (ac (aF kP hr (ac (ae at0) (ac ak (ac (ae at1) ad)))) ad)))
 have h_3:PSF (gj (CXo P w) P w K mg base ["_law_script","_law_screen_here","_law_one","_law_other","_law_pad","_law_there","_law_on","_law_home","_law_first","_law_k"] "law" (ag (top 61)) f cdv A outer s H E) ((aZ (top 61)).getD 3 (.Pass ⟨0,0,0,0⟩)) (tP av ao ai am aj aw ar aq ah aL):=(Ee 5 hN (yh 4 bg fF hr (ac (ae at2) ad)))
 have h_4:PSF (gj (CXo P w) P w K mg base ["_law_script","_law_screen_here","_law_one","_law_other","_law_pad","_law_there","_law_on","_law_home","_law_first","_law_k"] "law" (ag (top 61)) f cdv A outer s H E) ((aZ (top 61)).getD 4 (.Pass ⟨0,0,0,0⟩)) (yV av ao ai am aj aw ar aq ah aL):=(Ee 6 hN (yh 4 bg fF hr (ac (ae at3) ad)))
 have h_5:PSF (gj (CXo P w) P w K mg base ["_law_script","_law_screen_here","_law_one","_law_other","_law_pad","_law_there","_law_on","_law_home","_law_first","_law_k"] "law" (ag (top 61)) f cdv A outer s H E) ((aZ (top 61)).getD 5 (.Pass ⟨0,0,0,0⟩)) (tz av ao ai am aj aw ar aq ah aL):=(iC (A1 (aV (aV (ae at5) (ae at6)) ak) (aF eG hr (ac (ae at1) (ac (ae at3) ad)))) (af (bq jJ) aE) aE)
 have h_6:PSF (gj (CXo P w) P w K mg base ["_law_script","_law_screen_here","_law_one","_law_other","_law_pad","_law_there","_law_on","_law_home","_law_first","_law_k"] "law" (ag (top 61)) f cdv A outer s H E) ((aZ (top 61)).getD 6 (.Pass ⟨0,0,0,0⟩)) (yp av ao ai am aj aw ar aq ah aL):=(Ee 7 hN (yh 4 bg fF hr (ac (aF oa hr (ac (ae at1) ad)) ad)))
 have h_7:PSF (gj (CXo P w) P w K mg base ["_law_script","_law_screen_here","_law_one","_law_other","_law_pad","_law_there","_law_on","_law_home","_law_first","_law_k"] "law" (ag (top 61)) f cdv A outer s H E) ((aZ (top 61)).getD 7 (.Pass ⟨0,0,0,0⟩)) (xZ av ao ai am aj aw ar aq ah aL):=(iC (pO (jB (ml hu (fC 4 bg dP hr) (ae at1)) (fZ (ml hu (fC 4 bg ii hr) (aV (aV (ae at5) (ae at6)) (ae at7)))))) (af (bq jJ) aE) aE)
 have h_9:PSF (gj (CXo P w) P w K mg base ["_law_script","_law_screen_here","_law_one","_law_other","_law_pad","_law_there","_law_on","_law_home","_law_first","_law_k"] "law" (ag (top 61)) f cdv A outer s H E) ((aZ (top 61)).getD 9 (.Pass ⟨0,0,0,0⟩)) (yv av ao ai am aj aw ar aq ah aL):=(qO PassesOwn.leaving rfl (nZ rfl cJ (ac (dW rfl bh (ac (ae at3) ad)) ad)) (fj 9 hN) (af (yP 8 bg fF hr (ac (aV (dm (ae at3) dw (iG (aV (ae at9) ak))) (dm (aF oa hr (ac (fC 8 bg dP hr) ad)) (iG (aV (ae at9) ak)) dw)) ad)) aE))
 have h_10:PSF (gj (CXo P w) P w K mg base ["_law_script","_law_screen_here","_law_one","_law_other","_law_pad","_law_there","_law_on","_law_home","_law_first","_law_k"] "law" (ag (top 61)) f cdv A outer s H E) ((aZ (top 61)).getD 10 (.Pass ⟨0,0,0,0⟩)) (sW av ao ai am aj aw ar aq ah aL):=(iC (ml hu (dm (aF oa hr (ac (fC 8 bg dP hr) ad)) dw (iG (dW rfl bh (ac (ae at3) ad)))) (iQ (dk (N':=["_law_row_here"]) (ix:=[]) fG rfl (hW (ae at3)) (fun C s₂ H₂ fp=>(nz (cU at0) (ac (bO (l:=[32]) rfl (by decide)) ad))) (fun C s₂ H₂ fp=>gw)))) (af (bq jJ) aE) aE)
 have h_11:PSF (gj (CXo P w) P w K mg base ["_law_script","_law_screen_here","_law_one","_law_other","_law_pad","_law_there","_law_on","_law_home","_law_first","_law_k"] "law" (ag (top 61)) f cdv A outer s H E) ((aZ (top 61)).getD 11 (.Pass ⟨0,0,0,0⟩)) (sB av ao ai am aj aw ar aq ah aL):=(bq (fY (vC hu (aF eG hr (ac (ae at1) (ac (aF oa hr (ac (ae at1) ad)) ad))) ak) (ia (vC hu (fC 4 bg qr hr) (eR (ac ak (ac ak ad)))))))
 exact (iq h_0 (iq h_1 (Bx 4 BM hr hN (ac (ae at1) ad) (iq h_3 (iq h_4 (iq h_5 (iq h_6 (iq h_7 (Bx 8 BM hr hN (ac (ae at1) ad) (rj (af h_9 (af h_10 (af h_11 aE)))))))))))))
end
theorem GK {w:World} {K:PySem.W.Frag} {mg:Str->Option Value} {fa:Addr} (hfa:mg "law"=some (.ref fa)) (ke:mg "all"=none) (qH:mg "bool"=none) (pw:mg "dict"=none) (cc:mg "enumerate"=none) (rh:mg "int"=none) (aB:mg "isinstance"=none) (bh:mg "len"=none) (fT:mg "list"=none) (pC:mg "min"=none) (cJ:mg "range"=none) (yo:mg "str"=none) (yj:mg "sum"=none) (bN:mg "tuple"=none) (aQ:∃ a,mg "ELSEWHERE"=some (.ref a)/\jT K a (D.tup [D.bl false,D.bl false])) (aG:∃ a,mg "ELSEWHERE_WIPED"=some (.ref a)/\jT K a (D.tup [D.bl false,D.bl true])) (dL:∃ t,mg "GO_COST"=some (.int 2 t)) (de:∃ a,mg "HERE"=some (.ref a)/\jT K a (D.tup [D.bl true,D.bl false])) (aS:∃ a,mg "HERE_WIPED"=some (.ref a)/\jT K a (D.tup [D.bl true,D.bl true])) (jZ:∃ t,mg "MADE"=some (.str "made" t)) (bJ:∃ t,mg "MOST_ROWS"=some (.int 12 t)) (bI:∃ t,mg "MOST_SAID"=some (.int 40 t)) (bt:∃ t,mg "MOST_WIDTH"=some (.int 40 t)) (bx:∃ a,mg "NO_ORDERS"=some (.ref a)/\jT K a (D.tup [D.int 0,D.tup []])) (cE:∃ t,mg "WIPE_COST"=some (.int 1 t)) (kY:PySem.W.nsIn K mainGlobals "NoOrder"=some (some (.ref bG))) (kC:PySem.W.excIn K bG [.type "ValueError",.type "Exception",.type "BaseException",.type "object"] "ValueError.__new__"=true) (jo:PySem.W.nsIn K mainGlobals "NoScreen"=some (some (.ref bC))) (jw:PySem.W.excIn K bC [.type "ValueError",.type "Exception",.type "BaseException",.type "object"] "ValueError.__new__"=true) (Dn:PySem.W.nsIn K mainGlobals "Pad"=some (some (.ref av))) (bg:CF K av [0,1])
 (h55:∃ f fd,FUz K "_law_cell" 55 f fd/\mg "_law_cell"=some (.ref f))
 (h56:∃ f fd,FUz K "_law_pick" 56 f fd/\mg "_law_pick"=some (.ref f))
 (h57:∃ f fd,FUz K "_law_row" 57 f fd/\mg "_law_row"=some (.ref f))
 (h58:∃ f fd,FUz K "_law_screen" 58 f fd/\mg "_law_screen"=some (.ref f))
 (h59:∃ f fd,FUz K "_law_some" 59 f fd/\mg "_law_some"=some (.ref f))
 (h60:∃ f fd,FUz K "_law_goal" 60 f fd/\mg "_law_goal"=some (.ref f))
 (h6:∃ f fd,FUz K "is_whole" 6 f fd/\mg "is_whole"=some (.ref f))
 (h7:∃ f fd,FUz K "is_within" 7 f fd/\mg "is_within"=some (.ref f))
 (h8:∃ f fd,FUz K "is_plain" 8 f fd/\mg "is_plain"=some (.ref f))
 (h12:∃ f fd,FUz K "are_full_rows" 12 f fd/\mg "are_full_rows"=some (.ref f))
 (h13:∃ f fd,FUz K "is_place" 13 f fd/\mg "is_place"=some (.ref f))
 (h14:∃ f fd,FUz K "is_screen" 14 f fd/\mg "is_screen"=some (.ref f))
 (h15:∃ f fd,FUz K "check_screen" 15 f fd/\mg "check_screen"=some (.ref f))
 (h17:∃ f fd,FUz K "are_rows" 17 f fd/\mg "are_rows"=some (.ref f))
 (h18:∃ f fd,FUz K "check_rows" 18 f fd/\mg "check_rows"=some (.ref f))
 (h19:∃ f fd,FUz K "full_rows" 19 f fd/\mg "full_rows"=some (.ref f))
 (h29:∃ f fd,FUz K "order_cost" 29 f fd/\mg "order_cost"=some (.ref f))
 (h39:∃ f fd,FUz K "plan_cost" 39 f fd/\mg "plan_cost"=some (.ref f))
 (h40:∃ f fd,FUz K "offer" 40 f fd/\mg "offer"=some (.ref f))
 (h41:∃ f fd,FUz K "offer_with_order" 41 f fd/\mg "offer_with_order"=some (.ref f))
 (h42:∃ f fd,FUz K "with_moves" 42 f fd/\mg "with_moves"=some (.ref f))
 (h43:∃ f fd,FUz K "stepped_over" 43 f fd/\mg "stepped_over"=some (.ref f))
 (h44:∃ f fd,FUz K "swept" 44 f fd/\mg "swept"=some (.ref f))
 (h45:∃ f fd,FUz K "cheapest" 45 f fd/\mg "cheapest"=some (.ref f))
 (h46:∃ f fd,FUz K "plan_from_elsewhere" 46 f fd/\mg "plan_from_elsewhere"=some (.ref f))
 (h47:∃ f fd,FUz K "plan_from_place" 47 f fd/\mg "plan_from_place"=some (.ref f))
 (h48:∃ f fd,FUz K "row_of_place_plan" 48 f fd/\mg "row_of_place_plan"=some (.ref f))
 (h24:∃ f fd,FUz K "is_say" 24 f fd/\mg "is_say"=some (.ref f))
 (h25:∃ f fd,FUz K "is_go" 25 f fd/\mg "is_go"=some (.ref f))
 (h26:∃ f fd,FUz K "is_order" 26 f fd/\mg "is_order"=some (.ref f))
 (h27:∃ f fd,FUz K "check_order" 27 f fd/\mg "check_order"=some (.ref f))
 (h28:∃ f fd,FUz K "check_orders" 28 f fd/\mg "check_orders"=some (.ref f))
 (h31:∃ f fd,FUz K "joined_or_none" 31 f fd/\mg "joined_or_none"=some (.ref f))
 (h32:∃ f fd,FUz K "shortened" 32 f fd/\mg "shortened"=some (.ref f))
 (h49:∃ f fd,FUz K "least" 49 f fd/\mg "least"=some (.ref f))
 (h30:∃ f fd,FUz K "cost" 30 f fd/\mg "cost"=some (.ref f))
 (h50:∃ f fd,FUz K "least_cost" 50 f fd/\mg "least_cost"=some (.ref f))
 (h16:∃ f fd,FUz K "shown" 16 f fd/\mg "shown"=some (.ref f))
 (h53_1:∃ f fd,Fun K "sheet" "Pad.sheet" (br (top 53) 1) f fd/\Meth K av "sheet" f)
 (h53_2:∃ f fd,Fun K "spent" "Pad.spent" (br (top 53) 2) f fd/\Meth K av "spent" f)
 (h53_3:∃ f fd,Fun K "step_to" "Pad.step_to" (br (top 53) 3) f fd/\Meth K av "step_to" f)
 (h53_6:∃ f fd,Fun K "bring" "Pad.bring" (br (top 53) 6) f fd/\Meth K av "bring" f)
 (h53_9:∃ f fd,Fun K "counts" "Pad.counts" (br (top 53) 9) f fd/\Meth K av "counts" f)
 (h53_0:∃ f fd,Fun K "__init__" "Pad.__init__" (br (top 53) 0) f fd/\Mk K av f)
 (h61:∃ f fd,FUz K "law" 61 f fd/\mg "law"=some (.ref f)) :
  ∃ fd:FuncData,(∀ (s:Shared) (u:Value),BindsTo s fd ⟨[u],[]⟩ [("_law_script",u)])/\∀ base:Heap,K.In base->base.Ns mainGlobals mg->FnF P w K mg base 11 fa fd ["_law_script"] AS:=by
 obtain ⟨a_ELSEWHERE,aQ,bn⟩:=aQ
 obtain ⟨a_ELSEWHERE_WIPED,aG,aO⟩:=aG
 obtain ⟨qQ,dL⟩:=dL
 obtain ⟨a_HERE,de,fg⟩:=de
 obtain ⟨a_HERE_WIPED,aS,bu⟩:=aS
 obtain ⟨BB,jZ⟩:=jZ
 obtain ⟨fh,bJ⟩:=bJ
 obtain ⟨fy,bI⟩:=bI
 obtain ⟨eF,bt⟩:=bt
 obtain ⟨a_NO_ORDERS,bx,cG⟩:=bx
 obtain ⟨lD,cE⟩:=cE
 obtain ⟨f55,d55,F55⟩:=h55
 obtain ⟨f56,d56,F56⟩:=h56
 obtain ⟨f57,d57,F57⟩:=h57
 obtain ⟨f58,d58,F58⟩:=h58
 obtain ⟨f59,d59,F59⟩:=h59
 obtain ⟨f60,d60,F60⟩:=h60
 obtain ⟨f6,d6,F6⟩:=h6
 obtain ⟨f7,d7,F7⟩:=h7
 obtain ⟨f8,d8,F8⟩:=h8
 obtain ⟨f12,d12,F12⟩:=h12
 obtain ⟨f13,d13,F13⟩:=h13
 obtain ⟨f14,d14,F14⟩:=h14
 obtain ⟨f15,d15,F15⟩:=h15
 obtain ⟨f17,d17,F17⟩:=h17
 obtain ⟨f18,d18,F18⟩:=h18
 obtain ⟨f19,d19,F19⟩:=h19
 obtain ⟨f29,d29,F29⟩:=h29
 obtain ⟨f39,d39,F39⟩:=h39
 obtain ⟨f40,d40,F40⟩:=h40
 obtain ⟨f41,d41,F41⟩:=h41
 obtain ⟨f42,d42,F42⟩:=h42
 obtain ⟨f43,d43,F43⟩:=h43
 obtain ⟨f44,d44,F44⟩:=h44
 obtain ⟨f45,d45,F45⟩:=h45
 obtain ⟨f46,d46,F46⟩:=h46
 obtain ⟨f47,d47,F47⟩:=h47
 obtain ⟨f48,d48,F48⟩:=h48
 obtain ⟨f24,d24,F24⟩:=h24
 obtain ⟨f25,d25,F25⟩:=h25
 obtain ⟨f26,d26,F26⟩:=h26
 obtain ⟨f27,d27,F27⟩:=h27
 obtain ⟨f28,d28,F28⟩:=h28
 obtain ⟨f31,d31,F31⟩:=h31
 obtain ⟨f32,d32,F32⟩:=h32
 obtain ⟨f49,d49,F49⟩:=h49
 obtain ⟨f30,d30,F30⟩:=h30
 obtain ⟨f50,d50,F50⟩:=h50
 obtain ⟨f16,d16,F16⟩:=h16
 obtain ⟨f53_1,d53_1,F53_1⟩:=h53_1
 obtain ⟨f53_2,d53_2,F53_2⟩:=h53_2
 obtain ⟨f53_3,d53_3,F53_3⟩:=h53_3
 obtain ⟨f53_6,d53_6,F53_6⟩:=h53_6
 obtain ⟨f53_9,d53_9,F53_9⟩:=h53_9
 obtain ⟨f53_0,d53_0,F53_0⟩:=h53_0
 obtain ⟨f61,d61,F61⟩:=h61
 have e:fa=f61:=by
  have:=hfa.symm.trans F61.2
  injection this with this
  injection this
 subst e
 refine ⟨d61,fun s u=>?_,fun base kb nb=>?_⟩
 ·obtain ⟨oc,od,kV,doc,pm,an,cdv,ct,osl,rfl,lk,hcd⟩:=F61.1.ex
  exact .of_eq rfl
 ·have fc:=B3 (x:="NoOrder") kb nb kY kC
  have dB:=B3 (x:="NoScreen") kb nb jo jw
  have FV:=PySem.W.mg_of kb nb Dn
  have k55:=F55.1.callee F55.2 ((F55.1.okF (P:=P) (w:=w) (base:=base) sJ (k:=0) (g:=df) fun _ _ _ _ _ _ hr=>(af (iC (A1 (ae at1) (dW rfl bh (ac (ae at0) ad))) (af (bq (bb (ae at0) (ae at1))) aE) aE) (af (iC (vK hr.units (ae at0) (wo (qN ad))) (af (bq ak) aE) aE) (af (bq (aV (fI (bb (ae at0) (ul (ae at1) (dW rfl bh (ac (ae at0) ad)))) ak) (ae at1))) aE)))).to (tfr (F:=zK))) (by walk_at "2")
  have k56:=F56.1.callee F56.2 ((F56.1.okF rB (k:=1) (g:=dc _) fun _ _ _ _ _ _ hr=>(af (cX at3 rB.nd (ul (fI (aV (aF k55 hr (ac (ae at0) (ac (ae at1) ad))) (fI ak (aV (ae at1) ak))) ak) ak)) (af (bq (ul (ul (aV (fI (ae at3) (ae at3)) (CO (ae at3) ak)) ak) (ae at2))) aE))).to (tfr (F:=eO))) (by walk_at "3")
  have k57:=F57.1.callee F57.2 ((F57.1.okF vg (k:=2) (g:=iy _) fun _ _ _ _ _ _ hr=>(af (cX at3 vg.nd (bO (l:=[]) rfl (by decide))) (af (qO PassesOwn.leaving rfl (nZ rfl cJ (ac (ae at2) ad)) (fj 4 vg.nd) (af (cX at3 vg.nd (aV (ae at3) (bb (bO (l:=[32,32,97,98,35]) rfl (by decide)) (aF k56 hr (ac (ae at0) (ac (aV (aV (ae at1) ak) (ae at4)) (ac ak ad))))))) aE)) (af (cX at5 vg.nd (aF k56 hr (ac (ae at0) (ac (ae at1) (ac (aV (ae at2) ak) ad))))) (af (bq (AH (vK hr.units (aF k56 hr (ac (ae at0) (ac (aV (ae at1) ak) (ac ak ad)))) ak) (ae at3) (aV (dm (ae at3) dw (iG (ae at5))) (fI (bO (l:=[32]) rfl (by decide)) (mJ (ae at2) (ae at5)))))) aE))))).to (tfr (F:=BG))) (by walk_at "3")
  have k56m3:=k56.mono 3
  have k58:=F58.1.callee F58.2 ((F58.1.okF oF (k:=3) (g:=eM _ _) fun _ _ _ _ _ _ hr=>(af (cX at4 oF.nd (qf rfl bN (ac (iQ (dk (N':=["_law_k","_law_script","_law_at","_law_width"]) (ix:=[0,1,2]) fG rfl (nZ rfl cJ (ac (ae at3) ad)) (fun C s₂ H₂ fp=>(aF k57 hr (ac (cU at1) (ac (aV (cU at2) (fI ak (cU at0))) (ac (cU at3) ad))))) (fun C s₂ H₂ fp=>gw))) ad))) (af (bq (eR (ac (ae at2) (ac (ae at4) (ac (eR (ac (aF k56m3 hr (ac (ae at0) (ac (aV (ae at1) ak) (ac (ae at3) ad)))) (ac (aF k56m3 hr (ac (ae at0) (ac (aV (ae at1) ak) (ac (aV (ae at2) ak) ad)))) ad))) ad))))) aE))).to (tfr (F:=Az))) (by walk_at "4")
  have k56m4:=k56.mono 4
  have k59:=F59.1.callee F59.2 ((F59.1.okF sw (k:=4) (g:=gf _ _) fun _ _ _ _ _ _ hr=>(af (bq (aF k58 hr (ac (ae at0) (ac (aV (ae at1) ak) (ac (aV ak (aF k56m4 hr (ac (ae at0) (ac (ae at1) (ac ak ad))))) (ac (aV ak (aF k56m4 hr (ac (ae at0) (ac (aV (ae at1) ak) (ac ak ad))))) ad)))))) aE)).to (tfr (F:=iB))) (by walk_at "2")
  have k60:=F60.1.callee F60.2 ((F60.1.okF rG (k:=3) (g:=gA _ _) fun _ _ _ _ _ _ hr=>(af (EB 3 rG.nd (qN ad)) (af (qO PassesOwn.leaving rfl (wu rfl cc (bb (ae at2) ak)) (rZ rfl (eY 4 rG.nd (eY 5 rG.nd nK))) (af (cX at6 rG.nd (aF k56m3 hr (ac (ae at0) (ac (aV (ae at1) (fI ak (ae at4))) (ac ak ad))))) (af (iC (vK hr.units (ae at6) ak) (af (cX at5 rG.nd (aF k57 hr (ac (ae at0) (ac (aV (aV (ae at1) (fI ak (ae at4))) ak) (ac (bb (ae at2) ak) ad))))) aE) (af (iC (A1 (ae at6) ak) (af (cX at7 rG.nd (aF k56m3 hr (ac (ae at0) (ac (aV (aV (ae at1) (fI ak (ae at4))) ak) (ac (bb (ae at2) ak) ad))))) (af (cX at5 rG.nd (aV (aV (dm (ae at5) dw (iG (ae at7))) (bb (bO (l:=[97,98,32,35]) rfl (by decide)) (aF k56m3 hr (ac (ae at0) (ac (aV (aV (ae at1) (fI ak (ae at4))) ak) (ac ak ad)))))) (dm (ae at5) (iG (aV (ae at7) ak)) dw))) aE)) aE) aE)) (af (tf 3 (nz (ae at5) (ac (bO (l:=[32]) rfl (by decide)) ad))) aE))) (hn:=lJ _)) (C7 3 (af (bq (dm (ae at3) dw (iG (mJ (dW rfl bh (ac (ae at3) ad)) (aF k56m3 hr (ac (ae at0) (ac (aV (ae at1) ak) (ac ak ad)))))))) aE))))).to (tfr (F:=qY))) (by walk_at "3")
  have k6:=F6.1.callee F6.2 ((F6.1.okF (P:=P) (w:=w) (base:=base) rM (k:=0) (g:=dY) fun _ _ _ _ _ _ hr=>(af (bq (fY (Ej aB (ae at0) rh) (ia (GG (AG aB (ae at0) qH))))) aE)).to sk) (by walk_at "1")
  have k7:=F7.1.callee F7.2 ((F7.1.okF qI (k:=1) (g:=dn _) fun _ _ _ _ _ _ hr=>(af (bq (fY (aF k6 hr (ac (ae at0) ad)) (ia (sP (ae at1) (ae at0) (ae at2))))) aE)).to qT) (by walk_at "3")
  have k8:=F8.1.callee F8.2 ((F8.1.okF (P:=P) (w:=w) (base:=base) rV (k:=0) (g:=eB) fun _ _ _ _ _ _ hr=>(af (bq (fY (Ei aB (ae at0) yo) (ia (Dy rfl rfl ke (ac (iQ (dk (N':=["sign"]) (ix:=[]) fG rfl (hW (ae at0)) (fun C s₂ H₂ fp=>(sP (bO (l:=[32]) rfl (by decide)) (cU at0) (bO (l:=[126]) rfl (by decide)))) (fun C s₂ H₂ fp=>gw))) ad))))) aE)).to rS) (by walk_at "1")
  have k12:=F12.1.callee F12.2 ((F12.1.okF jO (k:=1) (g:=cq _) fun _ _ _ _ _ _ hr=>(af (iC (pO (jB (fJ (gB (iP aB (ae at0) bN))) (fZ (fJ (Eo ak (dW rfl bh (ac (ae at0) ad)) (eD rfl bJ)))))) (af (bq jJ) aE) aE) (af (bq (Dy rfl rfl ke (ac (iQ (dk (N':=["row","width"]) (ix:=[1]) fG rfl (hW (ae at0)) (fun C s₂ H₂ fp=>(fY (aF k8 hr (ac (cU at0) ad)) (ia (vC hr.units (dW rfl bh (ac (cU at0) ad)) (cU at1))))) (fun C s₂ H₂ fp=>gw))) ad))) aE))).to jI) (by walk_at "2")
  have k13:=F13.1.callee F13.2 ((F13.1.okF sO (k:=2) (g:=dX _) fun _ _ _ _ _ _ hr=>(af (iC (pO (jB (fJ (gB (iP aB (ae at0) bN))) (fZ (ml hr.units (dW rfl bh (ac (ae at0) ad)) ak)))) (af (bq jJ) aE) aE) (af (bq (fY (aF k7 hr (ac (bb (ae at0) ak) (ac ak (ac (mJ (ae at2) ak) ad)))) (ia (aF k7 hr (ac (bb (ae at0) ak) (ac ak (ac (ae at1) ad))))))) aE))).to sL) (by walk_at "3")
  have k7m3:=k7.mono 3
  have k12m3:=k12.mono 3
  have k14:=F14.1.callee F14.2 ((F14.1.okF qp (k:=3) (g:=du _ _ _) fun _ _ _ _ _ _ hr=>(af (iC (pO (jB (fJ (gB (iP aB (ae at0) bN))) (fZ (ml hr.units (dW rfl bh (ac (ae at0) ad)) ak)))) (af (bq jJ) aE) aE) (af (cX at1 qp.nd (bb (ae at0) ak)) (af (iC (pO (jB (fJ (gB (aF k7m3 hr (ac (ae at1) (ac ak (ac (eD rfl bt) ad)))))) (fZ (fJ (gB (aF k12m3 hr (ac (bb (ae at0) ak) (ac (ae at1) ad)))))))) (af (bq jJ) aE) aE) (af (bq (aF k13 hr (ac (bb (ae at0) ak) (ac (ae at1) (ac (dW rfl bh (ac (bb (ae at0) ak) ad)) ad))))) aE))))).to pX) (by walk_at "1")
  have k15:=F15.1.callee F15.2 ((F15.1.okF lL (k:=4) (g:=cB _ _) fun _ _ _ _ _ _ hr=>(af (iC (fJ (gB (aF k14 hr (ac (ae at0) ad)))) (af (oB dB hr.hd (bO (l:=[116,104,105,115,32,105,115,32,110,111,32,115,99,114,101,101,110]) rfl (by decide))) aE) aE) aE)).to li) (by walk_at "1")
  have k8m5:=k8.mono 5
  have k17:=F17.1.callee F17.2 ((F17.1.okF sX (k:=5) (g:=gG _ _) fun _ _ _ _ _ _ hr=>(af (kJ (aF k15 hr (ac (ae at0) ad))) (af (iC (pO (jB (fJ (gB (tV aB (ae at1) fT))) (fZ (Gv (dW rfl bh (ac (ae at1) ad)) (dW rfl bh (ac (bb (ae at0) ak) ad)))))) (af (bq jJ) aE) aE) (af (bq (Dy rfl rfl ke (ac (iQ (dk (N':=["row","screen"]) (ix:=[0]) fG rfl (hW (ae at1)) (fun C s₂ H₂ fp=>(fY (aF k8m5 hr (ac (cU at0) ad)) (ia (JN (dW rfl bh (ac (cU at0) ad)) (bb (cU at1) ak))))) (fun C s₂ H₂ fp=>gw))) ad))) aE)))).to (tfr (F:=arG _))) (by walk_at "2")
  have k18:=F18.1.callee F18.2 ((F18.1.okF oG (k:=6) (g:=cZ _ _) fun _ _ _ _ _ _ hr=>(af (iC (fJ (gB (aF k17 hr (ac (ae at0) (ac (ae at1) ad))))) (af (oB dB hr.hd (bO (l:=[116,104,101,115,101,32,97,114,101,32,110,111,32,114,111,119,115,32,116,104,97,116,32,116,104,101,32,115,99,114,101,101,110,32,99,97,110,32,115,104,111,119]) rfl (by decide))) aE) aE) aE)).to mi) (by walk_at "2")
  have k19:=F19.1.callee F19.2 ((F19.1.okF (P:=P) (w:=w) (base:=base) pI (k:=0) (g:=fw) fun _ _ _ _ _ _ hr=>(af (cX at2 pI.nd (bb (ae at0) ak)) (af (cX at3 pI.nd (mJ (dW rfl bh (ac (bb (ae at0) ak) ad)) (dW rfl bh (ac (ae at1) ad)))) (af (bq (aV (iQ (dk (N':=["row","width"]) (ix:=[2]) fG rfl (hW (ae at1)) (fun C s₂ H₂ fp=>(Eu (cU at0) (ac (cU at1) ad))) (fun C s₂ H₂ fp=>gw))) (fI (wo (qN (ac (fI (bO (l:=[32]) rfl (by decide)) (ae at2)) ad))) (ae at3)))) aE)))).to (tfr (F:=frG))) (by walk_at "2")
  have k29:=F29.1.callee F29.2 ((F29.1.okF (P:=P) (w:=w) (base:=base) mT (k:=0) (g:=eP) fun _ _ _ _ _ _ hr=>(af (iC (vK hr.units (bb (ae at0) ak) (bO (l:=[115,97,121]) rfl (by decide))) (af (bq (dW rfl bh (ac (bb (ae at0) ak) ad))) aE) aE) (af (iC (vK hr.units (bb (ae at0) ak) (bO (l:=[103,111]) rfl (by decide))) (af (bq (eD rfl dL)) aE) aE) (af (bq (eD rfl cE)) aE)))).to (tfr (F:=ocG))) (by walk_at "1")
  have k39:=F39.1.callee F39.2 ((F39.1.okF (P:=P) (w:=w) (base:=base) pB (k:=0) (g:=fm) fun _ _ _ _ _ _ hr=>(af (bq (bb (ae at0) ak)) aE)).to (tfr (F:=pcF))) (by walk_at "1")
  have k40:=yI F40.1 F40.2 (A4 (P:=P) (w:=w) (mg:=mg) (base:=base) k39 AJ F40.1) (by walk_at "3") (n:=2) rfl
  have k41:=yI F41.1 F41.2 (ip (P:=P) (w:=w) (mg:=mg) (base:=base) (k29.mono 2) k40 iw F41.1) (by walk_at "4") (n:=3) rfl
  have k42:=F42.1.callee F42.2 (nB (P:=P) (w:=w) (base:=base) pw aQ bn de fg aS bu aG aO k41 ng F42.1) (by walk_at "3")
  have k43:=F43.1.callee F43.2 (kB (P:=P) (w:=w) (base:=base) k41 (k40.mono 3) lC F43.1) (by walk_at "3")
  have k44:=F44.1.callee F44.2 ((F44.1.okF As (k:=4) (g:=lq _ _) fun _ _ _ _ _ _ hr=>(af (cX at5 As.nd (ae at0)) (af (qO PassesOwn.leaving rfl (yA rfl cJ (ac (ae at4) (ac (dW rfl bh (ac (ae at2) ad)) ad))) (fj 6 As.nd) (af (cX at5 As.nd (aF k43 hr (ac (aF k42 hr (ac (ae at5) (ac (ae at1) (ac (ae at6) ad)))) (ac (bb (ae at2) (ae at6)) (ac (bb (ae at3) (ae at6)) ad))))) aE)) (af (bq (ae at5)) aE)))).to (tfr (F:=swF))) (by walk_at "5")
  have k45:=F45.1.callee F45.2 ((F45.1.okF (P:=P) (w:=w) (base:=base) sI (k:=2) (g:=fR _) fun _ _ _ _ _ _ hr=>(af (bq (BQ rfl rfl pC k39 hr.in1 (iQ (dk (N':=["state","plans"]) (ix:=[0]) fG rfl (hW (ae at1)) (fun C s₂ H₂ fp=>(qF 1 hr.units (cU at0))) (fun C s₂ H₂ fp=>(CK (AY 1 hr.units (cU at0)))))))) aE)).to (tfr (F:=chF))) (by walk_at "2")
  have k45m5:=k45.mono 5
  have k46:=F46.1.callee F46.2 ((F46.1.okF fO (k:=5) (g:=bR _ _) fun _ _ _ _ _ _ hr=>(af (cX at3 fO.nd (aF k44 hr (ac (JU hr.units (aW rfl aQ bn) (aW rfl bx cG)) (ac (ae at0) (ac (ae at1) (ac (ae at2) (ac ak ad))))))) (af (bq (aF k45m5 hr (ac (ae at3) (ac (eR (ac (aW rfl aQ bn) (ac (aW rfl de fg) (ac (aW rfl aG aO) (ac (aW rfl aS bu) ad))))) ad)))) aE))).to (tfr (F:=peF))) (by walk_at "3")
  have k47:=F47.1.callee F47.2 ((F47.1.okF iT (k:=5) (g:=cD _ _) fun _ _ _ _ _ _ hr=>(af (cX at4 iT.nd (aF k44 hr (ac (JU hr.units (aW rfl de fg) (aW rfl bx cG)) (ac (ae at0) (ac (ae at1) (ac (ae at2) (ac (ae at3) ad))))))) (af (cX at5 iT.nd (aF k45m5 hr (ac (ae at4) (ac (eR (ac (aW rfl aQ bn) (ac (aW rfl de fg) (ac (aW rfl aG aO) (ac (aW rfl aS bu) ad))))) ad)))) (af (cX at4 iT.nd (aF k44 hr (ac (JU hr.units (aW rfl aQ bn) (aW rfl bx cG)) (ac (ae at0) (ac (dm (ae at1) dw (iG (ae at3))) (ac (dm (ae at2) dw (iG (ae at3))) (ac ak ad))))))) (af (cX at6 iT.nd (aF k45m5 hr (ac (ae at4) (ac (eR (ac (aW rfl aQ bn) (ac (aW rfl de fg) ad))) ad)))) (af (bq (eR (ac (aV (bb (ae at5) ak) (bb (ae at6) ak)) (ac (aV (bb (ae at5) ak) (bb (ae at6) ak)) ad)))) aE)))))).to (tfr (F:=ppF))) (by walk_at "4")
  have k39m5:=k39.mono 5
  have k48:=F48.1.callee F48.2 ((F48.1.okF gZ (k:=6) (g:=bZ _ _ _) fun _ _ _ _ _ _ hr=>(af (cX at4 gZ.nd (wo (qN (ac (aF k47 hr (ac (ae at0) (ac (ae at1) (ac (ae at2) (ac (ae at3) ad))))) (ac (aF k46 hr (ac (ae at0) (ac (ae at1) (ac (ae at2) ad)))) ad))))) (af (bq (BQ rfl rfl pC k39m5 hr.in1 (ae at4))) aE))).to (tfr (F:=rpF))) (by walk_at "4")
  have k24:=F24.1.callee F24.2 ((F24.1.okF yZ (k:=1) (g:=jr _) fun _ _ _ _ _ _ hr=>(af (bq (fY (vC hr.units (dW rfl bh (ac (ae at0) ad)) ak) (fY (vC hr.units (bb (ae at0) ak) (bO (l:=[115,97,121]) rfl (by decide))) (fY (aF k8 hr (ac (bb (ae at0) ak) ad)) (ia (sP ak (dW rfl bh (ac (bb (ae at0) ak) ad)) (eD rfl bI))))))) aE)).to (tfr (F:=Iz))) (by walk_at "1")
  have k25:=F25.1.callee F25.2 ((F25.1.okF zE (k:=2) (g:=km _) fun _ _ _ _ _ _ hr=>(af (iC (pO (jB (ml hr.units (dW rfl bh (ac (ae at0) ad)) ak) (fZ (ml hr.units (bb (ae at0) ak) (bO (l:=[103,111]) rfl (by decide)))))) (af (bq jJ) aE) aE) (af (bq (fY (aF k7 hr (ac (bb (ae at0) ak) (ac ak (ac (mJ (eD rfl bJ) ak) ad)))) (ia (aF k7 hr (ac (bb (ae at0) ak) (ac ak (ac (eD rfl bt) ad))))))) aE))).to (tfr (F:=goG))) (by walk_at "1")
  have k24m3:=k24.mono 3
  have k26:=F26.1.callee F26.2 ((F26.1.okF sM (k:=3) (g:=fW _ _) fun _ _ _ _ _ _ hr=>(af (iC (fJ (gB (iP aB (ae at0) bN))) (af (bq jJ) aE) aE) (af (bq (GV (aF k24m3 hr (ac (ae at0) ad)) (GV (aF k25 hr (ac (ae at0) ad)) (ia (vC hr.units (ae at0) (eR (ac (bO (l:=[119,105,112,101]) rfl (by decide)) ad))))))) aE))).to (tfr (F:=Jc))) (by walk_at "1")
  have k27:=F27.1.callee F27.2 ((F27.1.okF md (k:=4) (g:=dI _ _) fun _ _ _ _ _ _ hr=>(af (iC (fJ (gB (aF k26 hr (ac (ae at0) ad)))) (af (oB fc hr.hd (bO (l:=[116,104,105,115,32,105,115,32,110,111,32,111,114,100,101,114]) rfl (by decide))) aE) aE) aE)).to (tfr (F:=ckG _))) (by walk_at "1")
  have k28:=F28.1.callee F28.2 ((F28.1.okF kL (k:=5) (g:=dj _ _) fun _ _ _ _ _ _ hr=>(af (iC (fJ (gB (tV aB (ae at0) fT))) (af (oB fc hr.hd (bO (l:=[116,104,105,115,32,105,115,32,110,111,32,108,105,115,116,32,111,102,32,111,114,100,101,114,115]) rfl (by decide))) aE) aE) (af (qO PassesOwn.leaving rfl (hW (ae at0)) (fj 1 kL.nd) (af (kJ (aF k27 hr (ac (ae at1) ad))) aE)) aE))).to (tfr (F:=ES _))) (by walk_at "1")
  have k31:=F31.1.callee F31.2 ((F31.1.okF (P:=P) (w:=w) (base:=base) ju (k:=0) (g:=cM) fun _ _ _ _ _ _ hr=>(af (iC (ml hr.units (bb (ae at0) ak) (bb (ae at1) ak)) (af (bq tH) aE) aE) (af (iC (ml hr.units (bb (ae at0) ak) (bO (l:=[115,97,121]) rfl (by decide))) (af (bq (ae at1)) aE) aE) (af (cX at2 ju.nd (aV (bb (ae at0) ak) (bb (ae at1) ak))) (af (bq (AH (Iu (dW rfl bh (ac (ae at2) ad)) (eD rfl bI)) (eR (ac (bO (l:=[115,97,121]) rfl (by decide)) (ac (ae at2) ad))) tH)) aE))))).to (tfr (F:=jnG))) (by walk_at "2")
  have k31m6:=k31.mono 6
  have k32:=F32.1.callee F32.2 ((F32.1.okF qS (k:=6) (g:=fA _ _) fun _ _ _ _ _ _ hr=>(af (kJ (aF k28 hr (ac (ae at0) ad))) (af (EB 1 qS.nd (qN ad)) (af (qO PassesOwn.leaving rfl (hW (ae at0)) (fj 2 qS.nd) (af (Gf 1 3 qS.nd (AH (Gv (dW rfl bh (ac (ae at1) ad)) ak) (aF k31m6 hr (ac (bb (ae at1) (Bj ak)) (ac (ae at2) ad))) tH)) (af (iC (IS (ae at3) tH) (af (tf 1 (ae at2)) aE) (af (E1 1 (ae at3) (Bj ak)) aE)) aE))) (C7 1 (af (bq (ae at1)) aE)))))).to (tfr (F:=shG _))) (by walk_at "1")
  have k19m7:=k19.mono 7
  have k46m7:=k46.mono 7
  have k49:=F49.1.callee F49.2 ((F49.1.okF zD (k:=7) (g:=lW _ _ _ _ _) fun _ _ _ _ _ _ hr=>(af (kJ (aF k18 hr (ac (ae at0) (ac (ae at1) ad)))) (af (cX at2 zD.nd (aF k19m7 hr (ac (ae at0) (ac (ae at1) ad)))) (af (cX at3 zD.nd (bb (bb (ae at0) ak) ak)) (af (EB 4 zD.nd (vw rfl fT (ac (bb (aF k48 hr (ac (ae at3) (ac (bb (bb (ae at0) ak) (ae at3)) (ac (bb (ae at2) (ae at3)) (ac (bb (bb (ae at0) ak) ak) ad))))) ak) ad))) (af (qO PassesOwn.leaving rfl (wu rfl cc (bb (ae at0) ak)) (rZ rfl (eY 5 zD.nd (eY 6 zD.nd nK))) (af (iC (ml hr.units (ae at5) (ae at3)) (af (ER 4 (bb (aF k46m7 hr (ac (ae at5) (ac (ae at6) (ac (bb (ae at2) (ae at5)) ad)))) ak)) aE) aE) aE) (hn:=lJ _)) (C7 4 (af (bq (aF k32 hr (ac (ae at4) ad))) aE)))))))).to (tfr (F:=leF _))) (by walk_at "2")
  have k29m6:=k29.mono 6
  have k30:=F30.1.callee F30.2 ((F30.1.okF Dg (k:=6) (g:=nA _ _) fun _ _ _ _ _ _ hr=>(af (kJ (aF k28 hr (ac (ae at0) ad))) (af (bq (IK rfl rfl yj (ac (iQ (dk (N':=["order"]) (ix:=[]) fG rfl (hW (ae at0)) (fun C s₂ H₂ fp=>(aF k29m6 hr (ac (cU at0) ad))) (fun C s₂ H₂ fp=>gw))) ad))) aE))).to (tfr (F:=coG _))) (by walk_at "1")
  have k30m8:=k30.mono 8
  have k50:=F50.1.callee F50.2 ((F50.1.okF mY (k:=8) (g:=eN _ _) fun _ _ _ _ _ _ hr=>(af (bq (aF k30m8 hr (ac (aF k49 hr (ac (ae at0) (ac (ae at1) ad))) ad))) aE)).to (tfr (F:=cR _))) (by walk_at "2")
  have k16:=F16.1.callee F16.2 ((F16.1.okF Ay (k:=5) (g:=kn _) fun _ _ _ _ _ _ hr=>(af (kJ (aF k15 hr (ac (ae at0) ad))) (af (bq (iQ (dk (N':=["row"]) (ix:=[]) fG rfl (hW (bb (ae at0) ak)) (fun C s₂ H₂ fp=>(nz (cU at0) (ac (bO (l:=[32]) rfl (by decide)) ad))) (fun C s₂ H₂ fp=>gw)))) aE))).to (tfr (F:=ut _))) (by walk_at "1")
  have k53_1:=lF F53_1.1 F53_1.2 (qz (P:=P) (w:=w) (mg:=mg) (base:=base) bg DS F53_1.1) (by walk_at "1") (n:=0) rfl
  have k53_2:=lF F53_2.1 F53_2.2 (qE (P:=P) (w:=w) (mg:=mg) (base:=base) bg D4 F53_2.1) (by walk_at "1") (n:=0) rfl
  have k53_3:=lF F53_3.1 F53_3.2 (ma (P:=P) (w:=w) (mg:=mg) (base:=base) bg k53_2 Fh F53_3.1) (by walk_at "4") (n:=3) rfl
  have k53_6:=lF F53_6.1 F53_6.2 (pN (P:=P) (w:=w) (mg:=mg) (base:=base) bN k50 (k19.mono 9) bg (k53_1.mono 9) (k53_3.mono 9) CG F53_6.1) (by walk_at "2") (n:=1) rfl
  have k53_9:=lF F53_9.1 F53_9.2 (nN (P:=P) (w:=w) (mg:=mg) (base:=base) bh bg zL F53_9.1) (by walk_at "1") (n:=0) rfl
  have k53_0:=mkc F53_0.1 F53_0.2 FV bg.ne (rP (P:=P) (w:=w) (mg:=mg) (base:=base) jZ k15 bg Fk F53_0.1) (by walk_at "2") (n:=1) rfl
  exact GP bh cJ (k59.mono 10) (k60.mono 10) (k50.mono 10) (k16.mono 10) bg k53_6 (k53_1.mono 10) (k53_2.mono 10) (k53_9.mono 10) (zZ k53_0 9) (CC IT) F61.1
end G93
namespace PySem.W.Fast
theorem tw801317643115502383:True:=⟨⟩
theorem tw15127568815408209187:True:=⟨⟩
theorem tw10904624606645267457:True:=⟨⟩
theorem tw10058446587131434817:True:=⟨⟩
theorem tw581008788594746858:True:=⟨⟩
theorem tw16788259171357054284:True:=⟨⟩
theorem tw5786589190049387344:True:=⟨⟩
theorem tw10575633341678654547:True:=⟨⟩
theorem tw8800027350808722516:True:=⟨⟩
theorem tw7893863803046848085:True:=⟨⟩
theorem tw8804638690656776342:True:=⟨⟩
theorem tw4237380051586493918:True:=⟨⟩
theorem tw16363684966913719647:True:=⟨⟩
theorem tw16089339296385544927:True:=⟨⟩
end PySem.W.Fast
open PySem PySem.W PyProof.Rows
set_option maxRecDepth 100000 in
set_option maxHeartbeats 0 in
theorem PySem.Challenge.cw_screenlines_k93_whole_costs_held_holds : PySem.Challenge.rw_screenlines_k93_whole_costs_held.Holds := by
 w_on;o_law;k_head;(case hw=>w_witness2)
 k_fill
 refine Q.KJ (l:=PySem.Challenge.rw_screenlines_k93_whole_costs_held) (L:=11) ⟨rfl,by decide,by decide⟩ rfl rfl (fun w h Y=>PySem.W.kIn_of Y) ?F
 case F=>
  intro w mg fa h KX G hmg
  have ke:mg "all"=none:=PySem.W.mg_none_of KX G (by k_is)
  have qH:mg "bool"=none:=PySem.W.mg_none_of KX G (by k_is)
  have pw:mg "dict"=none:=PySem.W.mg_none_of KX G (by k_is)
  have cc:mg "enumerate"=none:=PySem.W.mg_none_of KX G (by k_is)
  have rh:mg "int"=none:=PySem.W.mg_none_of KX G (by k_is)
  have aB:mg "isinstance"=none:=PySem.W.mg_none_of KX G (by k_is)
  have bh:mg "len"=none:=PySem.W.mg_none_of KX G (by k_is)
  have fT:mg "list"=none:=PySem.W.mg_none_of KX G (by k_is)
  have pC:mg "min"=none:=PySem.W.mg_none_of KX G (by k_is)
  have cJ:mg "range"=none:=PySem.W.mg_none_of KX G (by k_is)
  have yo:mg "str"=none:=PySem.W.mg_none_of KX G (by k_is)
  have yj:mg "sum"=none:=PySem.W.mg_none_of KX G (by k_is)
  have bN:mg "tuple"=none:=PySem.W.mg_none_of KX G (by k_is)
  have aQ:=Q.lr (x:="ELSEWHERE") KX G (by k_is) (Q.jq (vs:=[L2.V.bl false,L2.V.bl false]) (by k_is) (by decide) (.cons rfl (.cons rfl .nil)) (fun _=>(.cons (.bl _) (.cons (.bl _) .nil))))
  have aG:=Q.lr (x:="ELSEWHERE_WIPED") KX G (by k_is) (Q.jq (vs:=[L2.V.bl false,L2.V.bl true]) (by k_is) (by decide) (.cons rfl (.cons rfl .nil)) (fun _=>(.cons (.bl _) (.cons (.bl _) .nil))))
  have dL:∃ t,mg "GO_COST"=some (.int 2 t):=⟨_,PySem.W.mg_of KX G (by k_is)⟩
  have de:=Q.lr (x:="HERE") KX G (by k_is) (Q.jq (vs:=[L2.V.bl true,L2.V.bl false]) (by k_is) (by decide) (.cons rfl (.cons rfl .nil)) (fun _=>(.cons (.bl _) (.cons (.bl _) .nil))))
  have aS:=Q.lr (x:="HERE_WIPED") KX G (by k_is) (Q.jq (vs:=[L2.V.bl true,L2.V.bl true]) (by k_is) (by decide) (.cons rfl (.cons rfl .nil)) (fun _=>(.cons (.bl _) (.cons (.bl _) .nil))))
  have jZ:∃ t,mg "MADE"=some (.str "made" t):=⟨_,PySem.W.mg_of KX G (by k_is)⟩
  have bJ:∃ t,mg "MOST_ROWS"=some (.int 12 t):=⟨_,PySem.W.mg_of KX G (by k_is)⟩
  have bI:∃ t,mg "MOST_SAID"=some (.int 40 t):=⟨_,PySem.W.mg_of KX G (by k_is)⟩
  have bt:∃ t,mg "MOST_WIDTH"=some (.int 40 t):=⟨_,PySem.W.mg_of KX G (by k_is)⟩
  have bx:=Q.lr (x:="NO_ORDERS") KX G (by k_is) (Q.jq (vs:=[L2.V.int 0,L2.V.ref _]) (by k_is) (by decide) (.cons ⟨_,rfl⟩ (.cons rfl .nil)) (fun _=>(.cons (.int _) (.cons (Q.jq (vs:=[]) (by k_is) (by decide) .nil (fun _=>.nil) _) .nil))))
  have cE:∃ t,mg "WIPE_COST"=some (.int 1 t):=⟨_,PySem.W.mg_of KX G (by k_is)⟩
  have h55:=Q.bc (x:="_law_cell") (st:=G93.top 55) KX G (by k_is) (by k_is) (by k_is) (by k_is)
  have h56:=Q.bc (x:="_law_pick") (st:=G93.top 56) KX G (by k_is) (by k_is) (by k_is) (by k_is)
  have h57:=Q.bc (x:="_law_row") (st:=G93.top 57) KX G (by k_is) (by k_is) (by k_is) (by k_is)
  have h58:=Q.bc (x:="_law_screen") (st:=G93.top 58) KX G (by k_is) (by k_is) (by k_is) (by k_is)
  have h59:=Q.bc (x:="_law_some") (st:=G93.top 59) KX G (by k_is) (by k_is) (by k_is) (by k_is)
  have h60:=Q.bc (x:="_law_goal") (st:=G93.top 60) KX G (by k_is) (by k_is) (by k_is) (by k_is)
  have h6:=Q.bc (x:="is_whole") (st:=G93.top 6) KX G (by k_is) (by k_is) (by k_is) (by k_is)
  have h7:=Q.bc (x:="is_within") (st:=G93.top 7) KX G (by k_is) (by k_is) (by k_is) (by k_is)
  have h8:=Q.bc (x:="is_plain") (st:=G93.top 8) KX G (by k_is) (by k_is) (by k_is) (by k_is)
  have h12:=Q.bc (x:="are_full_rows") (st:=G93.top 12) KX G (by k_is) (by k_is) (by k_is) (by k_is)
  have h13:=Q.bc (x:="is_place") (st:=G93.top 13) KX G (by k_is) (by k_is) (by k_is) (by k_is)
  have h14:=Q.bc (x:="is_screen") (st:=G93.top 14) KX G (by k_is) (by k_is) (by k_is) (by k_is)
  have h15:=Q.bc (x:="check_screen") (st:=G93.top 15) KX G (by k_is) (by k_is) (by k_is) (by k_is)
  have h17:=Q.bc (x:="are_rows") (st:=G93.top 17) KX G (by k_is) (by k_is) (by k_is) (by k_is)
  have h18:=Q.bc (x:="check_rows") (st:=G93.top 18) KX G (by k_is) (by k_is) (by k_is) (by k_is)
  have h19:=Q.bc (x:="full_rows") (st:=G93.top 19) KX G (by k_is) (by k_is) (by k_is) (by k_is)
  have h29:=Q.bc (x:="order_cost") (st:=G93.top 29) KX G (by k_is) (by k_is) (by k_is) (by k_is)
  have h39:=Q.bc (x:="plan_cost") (st:=G93.top 39) KX G (by k_is) (by k_is) (by k_is) (by k_is)
  have h40:=Q.bc (x:="offer") (st:=G93.top 40) KX G (by k_is) (by k_is) (by k_is) (by k_is)
  have h41:=Q.bc (x:="offer_with_order") (st:=G93.top 41) KX G (by k_is) (by k_is) (by k_is) (by k_is)
  have h42:=Q.bc (x:="with_moves") (st:=G93.top 42) KX G (by k_is) (by k_is) (by k_is) (by k_is)
  have h43:=Q.bc (x:="stepped_over") (st:=G93.top 43) KX G (by k_is) (by k_is) (by k_is) (by k_is)
  have h44:=Q.bc (x:="swept") (st:=G93.top 44) KX G (by k_is) (by k_is) (by k_is) (by k_is)
  have h45:=Q.bc (x:="cheapest") (st:=G93.top 45) KX G (by k_is) (by k_is) (by k_is) (by k_is)
  have h46:=Q.bc (x:="plan_from_elsewhere") (st:=G93.top 46) KX G (by k_is) (by k_is) (by k_is) (by k_is)
  have h47:=Q.bc (x:="plan_from_place") (st:=G93.top 47) KX G (by k_is) (by k_is) (by k_is) (by k_is)
  have h48:=Q.bc (x:="row_of_place_plan") (st:=G93.top 48) KX G (by k_is) (by k_is) (by k_is) (by k_is)
  have h24:=Q.bc (x:="is_say") (st:=G93.top 24) KX G (by k_is) (by k_is) (by k_is) (by k_is)
  have h25:=Q.bc (x:="is_go") (st:=G93.top 25) KX G (by k_is) (by k_is) (by k_is) (by k_is)
  have h26:=Q.bc (x:="is_order") (st:=G93.top 26) KX G (by k_is) (by k_is) (by k_is) (by k_is)
  have h27:=Q.bc (x:="check_order") (st:=G93.top 27) KX G (by k_is) (by k_is) (by k_is) (by k_is)
  have h28:=Q.bc (x:="check_orders") (st:=G93.top 28) KX G (by k_is) (by k_is) (by k_is) (by k_is)
  have h31:=Q.bc (x:="joined_or_none") (st:=G93.top 31) KX G (by k_is) (by k_is) (by k_is) (by k_is)
  have h32:=Q.bc (x:="shortened") (st:=G93.top 32) KX G (by k_is) (by k_is) (by k_is) (by k_is)
  have h49:=Q.bc (x:="least") (st:=G93.top 49) KX G (by k_is) (by k_is) (by k_is) (by k_is)
  have h30:=Q.bc (x:="cost") (st:=G93.top 30) KX G (by k_is) (by k_is) (by k_is) (by k_is)
  have h50:=Q.bc (x:="least_cost") (st:=G93.top 50) KX G (by k_is) (by k_is) (by k_is) (by k_is)
  have h16:=Q.bc (x:="shown") (st:=G93.top 16) KX G (by k_is) (by k_is) (by k_is) (by k_is)
  have h61:=Q.bc (x:="law") (st:=G93.top 61) KX G (by k_is) (by k_is) (by k_is) (by k_is)
  refine' G93.GK (P:=_) (w:=w) (K:=L2.KOf KX) hmg ke qH pw cc rh aB bh fT pC cJ yo yj bN aQ aG dL de aS jZ bJ bI bt bx cE ?kY ?kC ?jo ?jw ?Dn ?bg h55 h56 h57 h58 h59 h60 h6 h7 h8 h12 h13 h14 h15 h17 h18 h19 h29 h39 h40 h41 h42 h43 h44 h45 h46 h47 h48 h24 h25 h26 h27 h28 h31 h32 h49 h30 h50 h16 ?h53_1 ?h53_2 ?h53_3 ?h53_6 ?h53_9 ?h53_0 h61
  all_goals (try dsimp only [L2.KOf])
  (case kY=>k_is)
  (case jo=>k_is)
  (case kC=>k_exc)
  (case jw=>k_exc)
  (case Dn=>k_is)
  (case bg=>exact Q.wG 0 (x:="states") (Q.wG 1 (x:="taken_back") (Q.EF (by decide) (by k_is) (by k_is) (by k_is) (by k_is)) (by decide) rfl (by k_is)) (by decide) rfl (by k_is))
  (case h53_1=>exact Q.lI (st:=(L2.br (G93.top 53) 1)) (by k_is) (by k_is) (by k_is) (by k_is) (by k_is))
  (case h53_2=>exact Q.lI (st:=(L2.br (G93.top 53) 2)) (by k_is) (by k_is) (by k_is) (by k_is) (by k_is))
  (case h53_3=>exact Q.lI (st:=(L2.br (G93.top 53) 3)) (by k_is) (by k_is) (by k_is) (by k_is) (by k_is))
  (case h53_6=>exact Q.lI (st:=(L2.br (G93.top 53) 6)) (by k_is) (by k_is) (by k_is) (by k_is) (by k_is))
  (case h53_9=>exact Q.lI (st:=(L2.br (G93.top 53) 9)) (by k_is) (by k_is) (by k_is) (by k_is) (by k_is))
  (case h53_0=>exact Q.Ds (st:=(L2.br (G93.top 53) 0)) (by k_is) (by k_is) (by k_is) (by k_is) (by k_is) (by k_is) (by k_is))
end
end
