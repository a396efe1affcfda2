import PyProof.Rows.All
import Wide.All
import OpenK.AllK
import Wide.FinOn
import Lean
import PyProof.EqAt
import PyProof.EqKinds
import PyProof.TupleCall
import PyProof.NeKinds
import KE.KDictOf
import PyProof.Rows.TupDisplay
import PyProof.DictItems
import KE.KPairComp
import PyProof.Draws
import KE.KTupSum
import KE.KIntText
import PyProof.Rows.Range3
import PyProof.Rows.FStr
import PyProof.StrCalls2
import PyProof.StrLawsTight
import PyProof.StrLawsIn
import PyProof.StrCalls
import KE.KLam
import KE.KMinKey
import PyProof.Rows.RuleN_abs
import PyProof.Rows.StrCut
import PySem.Challenge.RW_screenlines_k76_whole_spans
set_option Elab.async false
set_option linter.all false
set_option maxRecDepth 100000
noncomputable section
variable {us its:List Value} {x y qual name y0 y1 y2 y3 y4:Str} {u cdv:Value} {a b it f q C bz bp bn a_ELSEWHERE a_HERE a_HERE_WIPED a_ELSEWHERE_WIPED a_NO_ORDERS:Addr} {o:Obj} {P:Program} {h h':Heap} {t' i j k kt wd J:Nat} {ch fp:List Addr} {E:Value->Shared->Prop} {s' s:Shared} {pos p:Pos} {pins:List (Addr×Obj)} {es elts:List Expr} {tg iter tgt:Expr} {fd:FuncData} {ps loose:List Str} {scope:Scope} {od:Option Addr} {osl:Array (Option Value)} {st:Stmt} {ix old ks:List Nat} {neg fz:Bool}
namespace L2
open PySem PySem.Spec PyProof.Rows
abbrev Key:=Sum Int Str
noncomputable def Hk:Key->Value->Bool
 | .inl k,v=>Value.isInt k v
 | .inr x,v=>Value.isStrOf x v
noncomputable def NB (w:World):Key->Int
 | .inl k=>hashInt k
 | .inr x=>hashStr w x
theorem cf:∀ {k:Key} {v:Value},Hk k v=true->(∃ i t,k=Sum.inl i/\v=Value.int i t)\/(∃ x t,k=Sum.inr x/\v=Value.str x t)
 | .inl i,v,h=>by
  obtain ⟨t,e⟩:=Value.isInt_shape (k:=i) (v:=v) h
  exact .inl ⟨i,t,rfl,e⟩
 | .inr x,v,h=>by
  obtain ⟨t,e⟩:=Value.isStrOf_shape (x:=x) (v:=v) h
  exact .inr ⟨x,t,rfl,e⟩
theorem I8 (a b:Int):decide ((Sum.inl a:Key)=Sum.inl b)=(a==b):=by
 by_cases e:a=b
 ·subst e;simp
 ·have h : ¬ (Sum.inl a:Key)=Sum.inl b:=fun q=>e (Sum.inl.inj q)
  rw [decide_eq_false h]
  exact (beq_eq_false_iff_ne.mpr e).symm
theorem Hh (a b:Str):decide ((Sum.inr a:Key)=Sum.inr b)=decide (a=b):=by
 by_cases e:a=b
 ·subst e;simp
 ·have h : ¬ (Sum.inr a:Key)=Sum.inr b:=fun q=>e (Sum.inr.inj q)
  rw [decide_eq_false h,decide_eq_false e]
theorem HD (a:Int) (b:Str):decide ((Sum.inl a:Key)=Sum.inr b)=false:=decide_eq_false (fun q=>nomatch q)
theorem HS (a:Str) (b:Int):decide ((Sum.inr a:Key)=Sum.inl b)=false:=decide_eq_false (fun q=>nomatch q)
noncomputable def vP (prog:Program) (w:World):PySem.KeyKind prog w Key where
 is:=Hk
 hash:=NB w
 inj:=fun v a b ha hb=>by
  rcases cf ha with ⟨i,t,rfl,rfl⟩|⟨x,t,rfl,rfl⟩
  ·rcases cf hb with ⟨j,u,rfl,e⟩|⟨y,u,rfl,e⟩
   ·injection e with e1 _;rw [e1]
   ·exact nomatch e
  ·rcases cf hb with ⟨j,u,rfl,e⟩|⟨y,u,rfl,e⟩
   ·exact nomatch e
   ·injection e with e1 _;rw [e1]
 byValue:=fun k v h=>by
  rcases cf h with ⟨i,t,rfl,rfl⟩|⟨x,t,rfl,rfl⟩ <;> rfl
 pyHash:=fun hv h=>by
  rcases cf hv with ⟨i,t,rfl,rfl⟩|⟨x,t,rfl,rfl⟩
  ·exact wpAny_pyHash_int h
  ·exact wpAny_pyHash_str h
 eqBool:=fun hu hv h=>by
  rcases cf hu with ⟨i,t,rfl,rfl⟩|⟨x,t,rfl,rfl⟩
  ·rcases cf hv with ⟨j,u,rfl,rfl⟩|⟨y,u,rfl,rfl⟩
   ·rw [I8] at h;exact wpAny_eqBool_int h
   ·rw [HD] at h;exact SeqAt.EqAt.int_str i t y u _ _ _ _ h
  ·rcases cf hv with ⟨j,u,rfl,rfl⟩|⟨y,u,rfl,rfl⟩
   ·rw [HS] at h;exact SeqAt.EqAt.str_int x t j u _ _ _ _ h
   ·rw [Hh] at h;exact wpAny_eqBool_str h
 «strs»:=fun k x t v h=>by
  rcases cf h with ⟨i,u,rfl,e⟩|⟨y,u,rfl,e⟩
  ·exact nomatch e
  ·injection e with e1 _
   subst e1
   cases v <;> rfl
inductive V where
 | non|bl (b:Bool)|int (i:Int)|str (x:Str)|byt (b:Array UInt8)|flt (b:UInt64)|ref (a:Addr)|ty (n:String)
 deriving DecidableEq
noncomputable def RelV:V->Value->Prop
 | .non,u=>u=Value.none
 | .bl b,u=>u=Value.bool b
 | .int i,u=>∃ t,u=Value.int i t
 | .str x,u=>∃ t,u=Value.str x t
 | .byt b,u=>∃ t,u=Value.bytes b t
 | .flt b,u=>∃ t,u=Value.float b t
 | .ref a,u=>u=Value.ref a
 | .ty n,u=>u=Value.type n
abbrev Vals:List V->List Value->Prop:=Paired RelV
theorem Vals.length {xs:List V} (r:Vals xs us):xs.length=us.length:=Paired.length r
theorem Vals.get:∀ {xs:List V} {us:List Value} {i:Nat} {x:V},Vals xs us->xs[i]?=some x->∃ u,us[i]?=some u/\RelV x u
 | _,_,_,_,.nil,e=>by simp at e
 | _,_,0,_,.cons r _,e=>by simp at e;subst e;exact ⟨_,rfl,r⟩
 | _,_,i+1,x,.cons _ t,e=>by
  obtain ⟨u,h1,h2⟩:=Vals.get (i:=i) (x:=x) t (by simpa using e)
  exact ⟨u,by simpa using h1,h2⟩
theorem Vals.set {x:V} (r:RelV x u):∀ {xs:List V} {us:List Value} (i:Nat),Vals xs us->Vals (xs.set i x) (us.set i u)
 | _,_,_,.nil=>.nil
 | _,_,0,.cons _ t=>.cons r t
 | _,_,i+1,.cons q t=>.cons q (Vals.set r i t)
theorem Vals.append:∀ {xs ys:List V} {us ws:List Value},Vals xs us->Vals ys ws->Vals (xs++ys) (us++ws)
 | _,_,_,_,.nil,s=>s
 | _,_,_,_,.cons r t,s=>.cons r (Vals.append t s)
theorem Vals.take:∀ {xs:List V} {us:List Value} (n:Nat),Vals xs us->Vals (xs.take n) (us.take n)
 | _,_,0,_=>.nil
 | _,_,_+1,.nil=>.nil
 | _,_,n+1,.cons r t=>.cons r (Vals.take n t)
theorem Vals.drop:∀ {xs:List V} {us:List Value} (n:Nat),Vals xs us->Vals (xs.drop n) (us.drop n)
 | _,_,0,r=>r
 | _,_,_+1,.nil=>.nil
 | _,_,n+1,.cons _ t=>Vals.drop n t
noncomputable def RelO:Option V->Option Value->Prop
 | some v,some u=>RelV v u
 | none,none=>True
 | _,_=>False
noncomputable def KV {κ:Type}:List (κ×V)->List (κ×Value)->Prop:=Paired fun (p:κ×V) (q:κ×Value)=>p.1=q.1/\RelV p.2 q.2
def kV:Key->V
 | .inl i=>.int i
 | .inr x=>.str x
inductive HO where
  /-- a list -/
  | lst (xs : List V)
  /-- a tuple (never changes) -/
  | tup (xs : List V)
  /-- a dict whose keys are ints and texts; one whose keys are tuples of ints and texts (the empty one is both) -/
  | dK (kvs : List (Key × V)) | dT (kvs : List (List Key × V))
  /-- a set of ints: its members, its size -/
  | set (S : Int -> Bool) (n : Nat)
  /-- an instance of the class at C, its dict at dx, its attributes -/
  | ins (C dx : Addr) (fs : List (Str × V))
  /-- the dict of the instance at x -/
  | own (x : Addr)
  /-- the dict of an exception -/
  | xd (fs : List (Str × V))
  /-- a bound method, f of x -/
  | met (f x : Addr)
  /-- a range object lo, lo + 1, .. below hi -/
  | rng (lo hi : Int)
  /-- a thing that is known to the object (the script; a dict while a loop walks it): read, never written while it is so -/
  | frz (o : Obj) (u : HO)
  /-- a code object's table -/
  | tbl (ps : Array Value)
  /-- any other thing, by what is true of its one object (a def of one's own: SetO a S n := HO.ext fun h => ..) -/
  | ext (φ : Heap -> Prop)

abbrev Hp:=Addr->Option HO
noncomputable def upd (H:Hp) (a:Addr) (o:HO):Hp:=fun b=>if b=a then some o else H b
theorem bc {H:Hp} {o:HO}:upd H a o a=some o:=by unfold upd;rw [if_pos rfl]
theorem aU {H:Hp} {o:HO} (h:b≠a):upd H a o b=H b:=by unfold upd;rw [if_neg h]
theorem aN {H:Hp} {o:HO} (h:H a=some o) (h':H b=none):a≠b:=by
 intro e;subst e;rw [h] at h';cases h'
noncomputable def Iy (ps:Array Value):Str:=match ps.toList with
 | .str q _::_=>q
 | _=>Str.empty
section
variable (P:Program) (w:World)
noncomputable def ObjOk (H:Hp) (h:Heap) (a:Addr):HO->Prop
 | .lst xs=>xs.length<=sizeLine/\∃ (its:List Value) (n:Nat),Vals xs its/\h.get? a=some { cls:=.type "list",data:=.seq its.toArray n }
 | .tup xs=>xs.length<=sizeLine/\∃ its:List Value,Vals xs its/\IsTup h a its.toArray
 | .dK kvs=>kvs.length<=sizeLine/\(a==sysModules)=false/\∃ vs,KV kvs vs/\h.DictOf (vP P w) a vs
 | .dT kvs=>kvs.length<=sizeLine/\(a==sysModules)=false/\∃ xs:List (List Key×Addr×Value),
   Paired (fun (p:List Key×V) (q:List Key×Addr×Value)=>p.1=q.1/\H q.2.1=some (.tup (p.1.map kV))/\RelV p.2 q.2.2) kvs xs/\
   ∃ o es ep,h.get? a=some o/\o.ExactDict/\o.data=.dict es ep/\es.toList=xs.map (entryOfKey (tupleKind (vP P w)))/\(xs.map (·.1)).Nodup
 | .set S n=>h.SetOf (intKind P w) a S n
 | .ins C dx fs=>H dx=some (.own a)/\fs.length<=1000/\dx≠a/\h.get? a=some (W.instObj C dx)/\
   ∃ mA,h.Ns1 dx mA/\(∀ f,RelO (fs.lookup f) (mA f))/\PySem.Within mA (fs.map (·.1))
 | .own _=>∃ o,h.get? a=some o
 | .xd fs=>∃ mA,h.Ns1 a mA/\∀ f,RelO (fs.lookup f) (mA f)
 | .rng lo hi=>∃ t u v,h.get? a=some { cls:=.type "range",data:=.fields #[.int lo t,.int hi u,.int 1 v] }
 | .frz o u=>h.get? a=some o/\ObjOk H h a u
 | .tbl ps=>∃ qs:Array Value,h.get? a=some { cls:=.none,data:=.fields qs }/\TriplesOk qs.toList/\∀ (pos:Pos) (cv:Value),codeAmong pos qs.toList=some cv->∃ c o vs t,cv=.ref c/\H c=some (.frz o (.own a))/\o.data=.fields vs/\vs[1]?=some (.str (Iy ps) t)
 | .met f x=>h.get? a=some (W.methodObj (.ref f) (.ref x))
 | .ext φ=>φ h/\(∃ o,h.get? a=some o)/\∀ h1 h2:Heap,φ h1->(∀ o,h1.get? a=some o->h2.get? a=some o)->φ h2
noncomputable def HOk (H:Hp) (h:Heap):Prop:=∀ a o,H a=some o->ObjOk P w H h a o
end
section
variable {P:Program} {w:World} {H H':Hp} {h h':Heap} {a:Addr} {o:HO}
theorem ObjOk.lt (x:ObjOk P w H h a o):a<h.objs.size:=by
 cases o with
 | lst xs=>obtain ⟨_,_,_,_,e⟩:=x;exact Heap.lt_size e
 | tup xs=>obtain ⟨_,_,_,p⟩:=x;exact p.lt
 | dK kvs=>obtain ⟨_,_,_,_,o,_,_,e,_⟩:=x;exact Heap.lt_size e
 | dT kvs=>obtain ⟨_,_,_,_,o,_,_,e,_⟩:=x;exact Heap.lt_size e
 | set S n=>obtain ⟨o,_,_,_,e,_⟩:=x;exact Heap.lt_size e
 | ins C dx fs=>obtain ⟨_,_,_,e,_⟩:=x;exact Heap.lt_size e
 | own y=>obtain ⟨_,e⟩:=x;exact Heap.lt_size e
 | xd fs=>obtain ⟨_,⟨_,_,_,e,_⟩,_⟩:=x;exact Heap.lt_size e
 | rng lo hi=>obtain ⟨_,_,_,e⟩:=x;exact Heap.lt_size e
 | frz ob u=>obtain ⟨e,_⟩:=x;exact Heap.lt_size e
 | tbl ps=>obtain ⟨_,e,_⟩:=x;exact Heap.lt_size e
 | met f y=>exact Heap.lt_size (show h.get? a=some _ from x)
 | ext φ=>obtain ⟨_,⟨_,e⟩,_⟩:=x;exact Heap.lt_size e
theorem Paired.mapP {α β:Type} {F G:α->β->Prop}:∀ {l₁:List α} {l₂:List β},Paired F l₁ l₂->(∀ a b,F a b->G a b)->Paired G l₁ l₂
 | _,_,.nil,_=>.nil
 | _,_,.cons r t,f=>.cons (f _ _ r) (Paired.mapP t f)
theorem ObjOk.stay (x:ObjOk P w H h a o) (k:∀ b u,(b=a\/H b=some (.own a))->h.get? b=some u->h'.get? b=some u)
 (ho:∀ b,H b=some (.own a)->H' b=some (.own a)) (ht:∀ b xs,H b=some (.tup xs)->H' b=some (.tup xs)) (hz:∀ b o u,H b=some (.frz o u)->H' b=some (.frz o u):=by exact fun _ _ _ q=>q):ObjOk P w H' h' a o:=by
 induction o with
 | lst xs=>obtain ⟨z,its,n,r,e⟩:=x;exact ⟨z,its,n,r,k _ _ (.inl rfl) e⟩
 | tup xs=>obtain ⟨z,its,r,ob,e,c⟩:=x;exact ⟨z,its,r,ob,k _ _ (.inl rfl) e,c⟩
 | dK kvs=>obtain ⟨z,y,vs,r,ob,es,ep,e,c⟩:=x;exact ⟨z,y,vs,r,ob,es,ep,k _ _ (.inl rfl) e,c⟩
 | dT kvs=>
  obtain ⟨z,y,xs,r,ob,es,ep,e,c⟩:=x
  exact ⟨z,y,xs,Paired.mapP r fun p q z=>⟨z.1,ht _ _ z.2.1,z.2.2⟩,ob,es,ep,k _ _ (.inl rfl) e,c⟩
 | set S n=>obtain ⟨ob,es,ep,t,e,c⟩:=x;exact ⟨ob,es,ep,t,k _ _ (.inl rfl) e,c⟩
 | ins C dx fs=>
  obtain ⟨d,z,ne,e,mA,⟨od,es,ep,e2,c⟩,r⟩:=x
  exact ⟨ho _ d,z,ne,k _ _ (.inl rfl) e,mA,⟨od,es,ep,k _ _ (.inr d) e2,c⟩,r⟩
 | own y=>obtain ⟨ob,e⟩:=x;exact ⟨ob,k _ _ (.inl rfl) e⟩
 | xd fs=>obtain ⟨mA,⟨od,es,ep,e,c⟩,r⟩:=x;exact ⟨mA,⟨od,es,ep,k _ _ (.inl rfl) e,c⟩,r⟩
 | rng lo hi=>obtain ⟨t,u,v,e⟩:=x;exact ⟨t,u,v,k _ _ (.inl rfl) e⟩
 | frz ob u ih=>obtain ⟨e,q⟩:=x;exact ⟨k _ _ (.inl rfl) e,ih q⟩
 | tbl ps=>
  obtain ⟨qs,e,tr,c⟩:=x
  refine ⟨qs,k _ _ (.inl rfl) e,tr,fun pos cv q=>?_⟩
  obtain ⟨c',o',vs,tk,e1,e2,e3⟩:=c pos cv q
  exact ⟨c',o',vs,tk,e1,hz _ _ _ e2,e3⟩
 | met f y=>
  have e:h.get? a=some (W.methodObj (.ref f) (.ref y)):=x
  show h'.get? a=some (W.methodObj (.ref f) (.ref y))
  exact k a _ (.inl rfl) e
 | ext φ=>obtain ⟨p,⟨o,e⟩,st⟩:=x;exact ⟨st _ _ p fun o q=>k _ _ (.inl rfl) q,⟨o,k _ _ (.inl rfl) e⟩,st⟩
theorem HOk.lt (x:HOk P w H h) (e:H a=some o):a<h.objs.size:=(x a o e).lt
theorem HOk.fresh (x:HOk P w H h) (e:h.objs.size<=a):H a=none:=by
 cases q:H a with
 | none=>rfl
 | some u=>exact absurd (Nat.lt_of_lt_of_le (x.lt q) e) (Nat.lt_irrefl _)
theorem HOk.kept (x:HOk P w H h) (k:∀ b u,h.get? b=some u->h'.get? b=some u):HOk P w H h':=fun a o e=>
 (x a o e).stay (fun b u _ q=>k b u q) (fun _ q=>q) fun _ _ q=>q
theorem HOk.laid (x:HOk P w H h) (k:∀ b u,h.get? b=some u->h'.get? b=some u) (hp:h.objs.size<=a) (new:ObjOk P w (upd H a o) h' a o):HOk P w (upd H a o) h':=fun b u e=>by
 have hn:=x.fresh hp
 by_cases hb:b=a
 ·subst hb;rw [bc] at e;cases e;exact new
 ·rw [aU hb] at e
  exact (x b u e).stay (fun c v _ q=>k c v q) (fun c q=>by rw [aU (aN q hn)];exact q) (fun c xs q=>by rw [aU (aN q hn)];exact q) fun c ob u q=>by rw [aU (aN q hn)];exact q
end
noncomputable def Rd (H:Hp) (a:Addr) (u:HO):Prop:=H a=some u\/∃ o,H a=some (.frz o u)
theorem Rd.ok {w:World} {H:Hp} {u:HO} (r:Rd H a u) (x:HOk P w H h):ObjOk P w H h a u:=by
 rcases r with r|⟨o,r⟩
 ·exact x a u r
 ·obtain ⟨_,q⟩:=x a _ r
  exact q
noncomputable def Mut:Option HO->Prop
 | some (.lst _)=>True
 | some (.dK _)=>True
 | some (.dT _)=>True
 | some (.set _ _)=>True
 | some (.ins _ _ _)=>True
 | some (.ext _)=>True
 | _=>False
section
variable {P:Program} {w:World} {H:Hp} {h h':Heap} {x e:Addr} {o':HO}
theorem HOk.write (ok:HOk P w H h) (mu:Mut (H x)) (he:e=x\/H e=some (.own x)) (k:∀ b u,b≠e->h.get? b=some u->h'.get? b=some u) (heo:∃ u,h'.get? e=some u)
 (new:ObjOk P w (upd H x o') h' x o'):HOk P w (upd H x o') h':=fun b u q=>by
 have nown:∀ c y,H c=some (.own y)->c≠x:=fun c y r z=>by subst z;rw [r] at mu;exact mu
 have ntup:∀ c xs,H c=some (.tup xs)->c≠x:=fun c xs r z=>by subst z;rw [r] at mu;exact mu
 have nfrz:∀ c ob u,H c=some (.frz ob u)->c≠x:=fun c ob u r z=>by subst z;rw [r] at mu;exact mu
 by_cases hb:b=x
 ·subst hb;rw [bc] at q;cases q;exact new
 ·rw [aU hb] at q
  by_cases hbe:b=e
  ·have q':H b=some (.own x):=by
    rcases he with z|z
    ·exact absurd (hbe.trans z) hb
    ·rw [hbe];exact z
   rw [q] at q';cases q'
   obtain ⟨v,hv⟩:=heo
   exact ⟨v,by rw [hbe];exact hv⟩
  ·refine (ok b u q).stay (fun c v hc r=>k c v ?_ r) (fun c r=>by rw [aU (nown c b r)];exact r) (fun c xs r=>by rw [aU (ntup c xs r)];exact r) fun c ob u r=>by rw [aU (nfrz c ob u r)];exact r
   rcases hc with rfl|hc
   ·exact hbe
   ·rintro rfl
    rcases he with z|z
    ·exact nown c b hc z
    ·rw [hc] at z;cases z;exact hb rfl
end
structure Un (fs ex:List Addr) (H H':Hp) (h h':Heap):Prop where
 keep:∀ b o,h.get? b=some o->H b=none->b ∉ fs->b ∉ ex->h'.get? b=some o
 slot:∀ b o,h.get? b=some o->H b=none->b∈fs->b ∉ ex->∃ sl,h'.get? b=some { o with slots:=sl }
 free:∀ b o,h.get? b=some o->H b=none->b ∉ ex->H' b=none
 there:∀ b o,h.get? b=some o->b ∉ ex->∃ o',h'.get? b=some o'
 tups:∀ b xs,H b=some (.tup xs)->H' b=some (.tup xs)
 frzs:∀ b o u,H b=some (.frz o u)->H' b=some (.frz o u)
 tbls:∀ b ps,H b=some (.tbl ps)->∃ more,H' b=some (.tbl (ps++more))
section
variable {fs fs' ex ex':List Addr} {H H1 H2:Hp} {h h1 h2 h':Heap} {a x e:Addr} {o:HO}
theorem Un.any (u:Un fs ex H H1 h h1) {ob:Obj} (q:h.get? b=some ob) (n:H b=none) (hx:b ∉ ex):∃ sl,h1.get? b=some { ob with slots:=sl }:=by
 by_cases hb:b∈fs
 ·exact u.slot b ob q n hb hx
 ·exact ⟨ob.slots,u.keep b ob q n hb hx⟩
theorem Un.kept (k:∀ b u,h.get? b=some u->h'.get? b=some u):Un fs ex H H h h':=
 ⟨fun b ob q _ _ _=>k b ob q,fun b ob q _ _ _=>⟨ob.slots,k b ob q⟩,fun _ _ _ n _=>n,fun b ob q _=>⟨ob,k b ob q⟩,fun _ _ q=>q,fun _ _ _ q=>q,fun _ ps q=>⟨#[],by rw [q];simp⟩⟩
theorem Un.refl:Un fs ex H H h h:=Un.kept fun _ _ q=>q
theorem Un.laid (k:∀ b u,h.get? b=some u->h'.get? b=some u) (hp:h.objs.size<=a) (hn:H a=none):Un fs ex H (upd H a o) h h' where
 keep:=fun b u q _ _ _=>k b u q
 slot:=fun b u q _ _ _=>⟨u.slots,k b u q⟩
 free:=fun b u q n _=>by rw [aU (Nat.ne_of_lt (Nat.lt_of_lt_of_le (Heap.lt_size q) hp))];exact n
 there:=fun b u q _=>⟨u,k b u q⟩
 tups:=fun b xs q=>by rw [aU (aN q hn)];exact q
 frzs:=fun b u xs q=>by rw [aU (aN q hn)];exact q
 tbls:=fun b ps q=>⟨#[],by rw [aU (aN q hn),q];simp⟩
theorem Un.write (mu:Mut (H x)) (he:e=x\/H e=some (.own x)) (k:∀ b u,b≠e->h.get? b=some u->h'.get? b=some u) (heo:∃ u,h'.get? e=some u):Un fs ex H (upd H x o) h h':=by
 have hx:∀ b,H b=none->b≠x:=fun b n z=>by subst z;rw [n] at mu;exact mu
 have hb:∀ b,H b=none->b≠e:=fun b n z=>by
  subst z
  rcases he with r|r
  ·exact hx b n r
  ·rw [n] at r;cases r
 have hm:∀ b u,H b=some u->¬ Mut (some u)->b≠x:=fun b u q nm z=>by subst z;rw [q] at mu;exact nm mu
 refine ⟨fun b u q n _ _=>k b u (hb b n) q,fun b u q n _ _=>⟨u.slots,k b u (hb b n) q⟩,fun b u q n _=>by rw [aU (hx b n)];exact n,fun b u q _=>?_,
  fun b xs q=>by rw [aU (hm b _ q fun z=>z)];exact q,fun b u xs q=>by rw [aU (hm b _ q fun z=>z)];exact q,fun b ps q=>⟨#[],by rw [aU (hm b _ q fun z=>z),q];simp⟩⟩
 by_cases hbe:b=e
 ·subst hbe;exact heo
 ·exact ⟨u,k b u hbe q⟩
end
noncomputable def Ek:HO->Value
 | .tbl ps=>if ps.size=1 then ps.getD 0 .none else .none
 | _=>.none
noncomputable def GF (H:Hp) (b:Addr) (o:Obj):Obj:=match H b with
 | none=>(match o.data with|.freed=>⟨.none,none,.freed,#[]⟩|_=>o)
 | some u=>⟨Ek u,none,.freed,#[]⟩
noncomputable def BC (h:Heap) (H:Hp):Heap:=⟨h.objs.mapIdx fun b o=>GF H b o,h.life⟩
theorem A7 (h:Heap) (H:Hp):(BC h H).objs.size=h.objs.size:=Array.size_mapIdx
theorem get_objs:h.get? b=some o ↔ h.objs[b]?=some o/\o.data ≠ .freed:=by
 unfold Heap.get?
 constructor
 ·intro e
  split at e
  ·cases e
  ·rename_i z
   refine ⟨e,fun q=>?_⟩
   obtain ⟨a,b,c,d⟩:=o
   cases q
   exact z _ _ _ e
 ·rintro ⟨e,n⟩
  rw [e]
  obtain ⟨a,b,c,d⟩:=o
  split
  ·rename_i q
   cases q
   exact absurd rfl n
  ·rfl
theorem oF (h:Heap) (H:Hp) (b:Addr):(BC h H).objs[b]?=(h.objs[b]?).map (GF H b):=Array.getElem?_mapIdx
theorem B6 {H:Hp} (e:h.get? b=some o) (n:H b=none):(BC h H).get? b=some o:=by
 obtain ⟨e1,e2⟩:=get_objs.1 e
 have z:GF H b o=o:=by
  unfold GF
  rw [n]
  cases q:o.data <;> first|rfl|exact absurd q e2
 exact get_objs.2 ⟨by rw [oF,e1,Option.map_some,z],e2⟩
theorem Go {H:Hp} (e:(BC h H).get? b=some o):h.get? b=some o/\H b=none:=by
 obtain ⟨e1,e2⟩:=get_objs.1 e
 rw [oF] at e1
 cases q:h.objs[b]? with
 | none=>rw [q] at e1;cases e1
 | some o'=>
  rw [q,Option.map_some] at e1
  have e1:=Option.some.inj e1
  unfold GF at e1
  cases hq:H b with
  | none=>
   rw [hq] at e1
   dsimp only at e1
   split at e1
   ·rw [<- e1] at e2;exact absurd rfl e2
   ·exact ⟨get_objs.2 ⟨by rw [q,e1],e2⟩,rfl⟩
  | some u=>rw [hq] at e1;dsimp only at e1;rw [<- e1] at e2;exact absurd rfl e2
noncomputable def JF (base:Heap) (p:Addr) (q:Str):Prop:=base.objs[p]?=some ⟨.str q 0,none,.freed,#[]⟩
noncomputable def TabsIn (base:Heap) (H:Hp):Prop:=∀ p q,JF base p q->∃ more,H p=some (.tbl (#[.str q 0]++more))
theorem AS (h : Heap) (H : Hp) : TabsIn (BC h H) H := fun p q e => by
  unfold JF at e
  rw [oF] at e
  cases z : h.objs[p]? with
  | none => rw [z] at e; cases e
  | some o =>
    rw [z, Option.map_some] at e
    have e := Option.some.inj e
    unfold GF at e
    cases hq : H p with
    | none =>
      rw [hq] at e
      dsimp only at e
      split at e
      · cases e
      · rename_i n; rw [e] at n; exact absurd rfl n
    | some u =>
      rw [hq] at e
      have e := congrArg Obj.cls e
      cases u with
      | tbl ps =>
        dsimp only [Ek] at e
        split at e
        · rename_i n
          refine ⟨#[], ?_⟩
          obtain ⟨l⟩ := ps
          match l, n with
          | [v], _ => have : v = .str q 0 := e
                      rw [this]; rfl
        · cases e
      | _ => cases e
theorem TabsIn.un {base:Heap} {fs ex:List Addr} {H H':Hp} (t:TabsIn base H) (u:Un fs ex H H' h h'):TabsIn base H':=fun p q e=>by
 obtain ⟨m1,z⟩:=t p q e
 obtain ⟨m2,z⟩:=u.tbls p _ z
 exact ⟨m1++m2,by rw [z,Array.append_assoc]⟩
noncomputable def EB (g h:Heap) (L:Addr):List (Addr×Obj):=(List.range h.objs.size).filterMap fun a=>if a=L\/(g.get? a).isSome=true then none else (h.get? a).map fun o=>(a,o)
noncomputable def cJ (g h:Heap) (L d:Addr):List (Addr×Obj):=(EB g h L).filter fun p=>decide (p.1≠d)
end L2
variable {xs vs:List L2.V} {H H' G G₀:L2.Hp} {v:L2.V} {sq:L2.Hp->List L2.V->Prop}
namespace L2
open PySem PySem.Spec PyProof.Rows
structure Mod (K:W.Frag) (mg:Str->Option Value) (base:Heap):Prop where
 kin:K.In base
 glob:base.Ns mainGlobals mg
 blt:∃ mb,base.Ns builtinsNs mb/\∀ x:Str,x ≠ "__name__"->mb x=bootBuiltins x
 nolimit:base.NoLimit
structure Cx where
 prog:Program
 w:World
 K:W.Frag
 mg:Str->Option Value
 base:Heap
 A:Around
 N:List Str
 s₀:Shared
 H₀:Hp
 env:Env
 outer:List Env
 stack:List Env
 ex:List Addr
 fn:Str->Bool
 calm:Bool
 pn:List (Addr×Obj)
 xe:Value->Shared->Prop
def frs (l:List Env):List Addr:=l.filterMap (·.frame)
abbrev Cx.fs (X:Cx):List Addr:=frs X.outer
noncomputable def Vis (sc:Scope) (x:Str):Prop:=sc.names.lookup x=some .local\/sc.names.lookup x=some .cell\/sc.names.lookup x=some .free
noncomputable def Loc (sc:Scope) (x:Str):Prop:=sc.names.lookup x=some .local\/sc.names.lookup x=some .cell
noncomputable def Nq (env:Env) (h:Heap) (m:Str->Option Value) (x:Str) (u:Value):Prop:=
 (env.kindOf x=some .local/\m x=some u)\/((env.kindOf x=some .cell\/env.kindOf x=some .free)/\∃ c,env.cells.lookup x=some c/\h.IsCell c (some u))
structure Cx.Ok (X:Cx):Prop where
 mod:Mod X.K X.mg X.base
 kind:X.env.scope.kind=.function
 glob:X.env.globals=mainGlobals
 blt:X.env.builtins=builtinsNs
 above:X.s₀.heap.objs.size<=X.env.locals
 inj:∀ x y c,X.env.cells.lookup x=some c->X.env.cells.lookup y=some c->x=y
 has:∀ x,(X.env.kindOf x=some .cell\/X.env.kindOf x=some .free)->∃ c,X.env.cells.lookup x=some c
 cab:∀ x c,X.fn x=true->X.env.cells.lookup x=some c->X.s₀.heap.objs.size<=c
 hd:X.calm=true->X.A.handled=none
 frames:X.A.frames=some X.stack
 stk:X.stack=X.outer\/(X.stack=X.env::X.outer/\X.env.frame=some X.env.locals)
 exf:∀ b∈X.ex,b≠X.env.locals/\∀ x c,X.env.cells.lookup x=some c->c≠b
 bs:∀ b o,X.base.get? b=some o->X.s₀.heap.get? b=some o/\X.H₀ b=none
 bsz:X.base.objs.size<=X.s₀.heap.objs.size
 noex:∀ b o,X.base.get? b=some o->b ∉ X.ex
 exfs:∀ b∈X.ex,b ∉ X.fs
 funs:X.s₀.heap.FunFrames X.base X.outer
 frf:∀ b∈X.fs,X.H₀ b=none
 tabs:TabsIn X.base X.H₀
structure Inv (X:Cx) (pins:List (Addr×Obj)) (σ:List (Option V)) (H:Hp) (s:Shared):Prop where
 ok:X.Ok
 os:s.os=X.s₀.os
 bare:AllBare s.gens
 base:Un X.fs X.ex X.H₀ H X.s₀.heap s.heap
 loc:∃ m,s.heap.Ns X.env.locals m/\∀ (i:Nat) (x:Str) (v:V),X.N[i]?=some x->σ[i]?=some (some v)->Vis X.env.scope x->∃ u,RelV v u/\Nq X.env s.heap m x u
 cell:∀ x c,X.env.cells.lookup x=some c->∃ v,s.heap.IsCell c v
 free:H X.env.locals=none
 freeC:∀ x c,X.env.cells.lookup x=some c->H c=none
 pin:∀ p∈X.pn++pins,s.heap.get? p.1=some p.2/\H p.1=none/\p.1≠X.env.locals/\p.1 ∉ X.fs/\∀ v,p.2.data ≠ .cell v
 hok:HOk X.prog X.w H s.heap
 len:σ.length=X.N.length
section
variable {X:Cx} {pins:List (Addr×Obj)} {σ:List (Option V)} {H H':Hp} {s:Shared} {h':Heap}
theorem Cx.Ok.nofr (ok:X.Ok) (e:X.base.get? b=some o):b ∉ X.fs:=fun hb=>by
 have:=(ok.funs.mem hb).1
 rw [e] at this;cases this
theorem Inv.bs (I:Inv X pins σ H s):∀ b o,X.base.get? b=some o->s.heap.get? b=some o/\H b=none:=fun b o e=>
 ⟨I.base.keep b o (I.ok.bs b o e).1 (I.ok.bs b o e).2 (I.ok.nofr e) (I.ok.noex b o e),I.base.free b o (I.ok.bs b o e).1 (I.ok.bs b o e).2 (I.ok.noex b o e)⟩
theorem Inv.bk (I:Inv X pins σ H s):∀ b o,X.base.get? b=some o->s.heap.get? b=some o:=fun b o e=>(I.bs b o e).1
theorem Inv.mod (I:Inv X pins σ H s):Mod X.K X.mg X.base:=I.ok.mod
theorem Inv.kIn (I:Inv X pins σ H s):X.K.In s.heap:=I.ok.mod.kin.keeps I.bk
theorem Inv.lt (I:Inv X pins σ H s):X.env.locals<s.heap.objs.size:=let ⟨_,hn,_⟩:=I.loc;hn.lt
theorem Inv.sz (I:Inv X pins σ H s):X.s₀.heap.objs.size<=s.heap.objs.size:=Nat.le_trans I.ok.above (Nat.le_of_lt I.lt)
theorem Inv.nofs (I:Inv X pins σ H s) (h:s.heap.objs.size<=a):a ∉ X.fs:=fun hb=>by
 obtain ⟨_,o,ho,_⟩:=I.ok.funs.mem hb
 exact absurd (Nat.lt_of_lt_of_le (Heap.lt_size ho) (Nat.le_trans I.sz h)) (Nat.lt_irrefl _)
theorem Inv.cne (I:Inv X pins σ H s):∀ x c,X.env.cells.lookup x=some c->c≠X.env.locals:=fun x c e z=>by
 obtain ⟨v,o,ho,hd⟩:=I.cell x c e
 obtain ⟨m,⟨o',es,ep,ho',hd',_⟩,_⟩:=I.loc
 rw [z,ho'] at ho;cases ho;rw [hd'] at hd;cases hd
theorem Inv.funs (I:Inv X pins σ H s):s.heap.FunFrames X.base X.outer:=by
 have all:∀ (l:List Env),(∀ b∈frs l,b∈X.fs)->X.s₀.heap.FunFrames X.base l->s.heap.FunFrames X.base l:=by
  intro l
  induction l with
  | nil=>intro _ _;trivial
  | cons env r ih=>
   intro hs hl
   obtain ⟨hk,⟨L,o,hf,hn,ho,hd⟩,hr⟩:=hl
   have hL:L∈X.fs:=hs L (by unfold frs;rw [List.filterMap_cons,hf];exact List.mem_cons_self)
   obtain ⟨sl,e⟩:=I.base.slot L o ho (I.ok.frf L hL) hL fun z=>I.ok.exfs L z hL
   exact ⟨hk,⟨L,_,hf,hn,e,hd⟩,ih (fun b hb=>hs b (by unfold frs;rw [List.filterMap_cons,hf];exact List.mem_cons_of_mem _ hb)) hr⟩
 exact all X.outer (fun _ hb=>hb) I.ok.funs
theorem Inv.stack (I:Inv X pins σ H s):s.heap.FunFrames X.base X.stack:=by
 rcases I.ok.stk with e|⟨e,hf⟩
 ·rw [e];exact I.funs
 ·rw [e]
  obtain ⟨m,hn,_⟩:=I.loc
  refine .cons (by rw [I.ok.kind];decide) hf hn ?_ I.funs
  exact Heap.get?_none_of_le (Nat.le_trans I.ok.bsz I.ok.above)
theorem Inv.stkSub (I:Inv X pins σ H s):∀ b∈frs X.stack,b∈X.env.locals::X.fs:=fun b hb=>by
 rcases I.ok.stk with e|⟨e,hf⟩
 ·rw [e] at hb;exact List.mem_cons_of_mem _ hb
 ·rw [e] at hb
  unfold frs at hb
  rw [List.filterMap_cons,hf] at hb
  exact hb
theorem Inv.stkFree (I:Inv X pins σ H s):∀ b∈frs X.stack,H b=none:=fun b hb=>by
 rcases List.mem_cons.mp (I.stkSub b hb) with e|hb
 ·rw [e];exact I.free
 ·obtain ⟨_,o,ho,_⟩:=I.ok.funs.mem hb
  exact I.base.free b o ho (I.ok.frf b hb) fun z=>I.ok.exfs b z hb
theorem Inv.step {g':Array GenState} {t':Nat} {d':Drawn} (I:Inv X pins σ H s)
 (hch:∀ b∈ch,(b∈X.ex\/X.s₀.heap.objs.size<=b)/\b≠X.env.locals/\(∀ x c,X.env.cells.lookup x=some c->c≠b)/\∀ p∈X.pn++pins,p.1≠b)
 (keep:∀ b o,b≠X.env.locals->b ∉ X.fs->b ∉ ch->s.heap.get? b=some o->H b=none->h'.get? b=some o)
 (slot:∀ b o,b≠X.env.locals->b∈X.fs->b ∉ ch->s.heap.get? b=some o->H b=none->∃ sl,h'.get? b=some { o with slots:=sl }) (free:∀ b o,b ∉ ch->s.heap.get? b=some o->H b=none->H' b=none)
 (there:∀ b o,b ∉ ch->s.heap.get? b=some o->∃ o',h'.get? b=some o')
 (tups:∀ b xs,H b=some (.tup xs)->H' b=some (.tup xs)) (frzs:∀ b o u,H b=some (.frz o u)->H' b=some (.frz o u)) (tbls:∀ b ps,H b=some (.tbl ps)->∃ more,H' b=some (.tbl (ps++more)))
 (ns:∀ m,s.heap.Ns X.env.locals m->h'.Ns X.env.locals m) (hok:HOk X.prog X.w H' h') (hg:AllBare g') :
  Inv X pins σ H' { s with heap:=h',gens:=g',drawn:=d',toks:=t' }:=by
 have neL:∀ b o,X.s₀.heap.get? b=some o->b≠X.env.locals:=fun b o e=>Nat.ne_of_lt (Nat.lt_of_lt_of_le (Heap.lt_size e) I.ok.above)
 have neC:∀ b o,X.s₀.heap.get? b=some o->b ∉ X.ex->b ∉ ch:=fun b o e hx hb=>by
  rcases (hch b hb).1 with z|z
  ·exact hx z
  ·exact absurd (Nat.lt_of_lt_of_le (Heap.lt_size e) z) (Nat.lt_irrefl _)
 have cellK:∀ x c,X.env.cells.lookup x=some c->∀ v,s.heap.IsCell c v->h'.IsCell c v:=fun x c e v ⟨o,ho,hd⟩=>by
  have nch:c ∉ ch:=fun z=>(hch c z).2.2.1 x c e rfl
  by_cases hc:c∈X.fs
  ·obtain ⟨sl,q⟩:=slot c o (I.cne x c e) hc nch ho (I.freeC x c e)
   exact ⟨_,q,hd⟩
  ·exact ⟨o,keep c o (I.cne x c e) hc nch ho (I.freeC x c e),hd⟩
 refine ⟨I.ok,I.os,hg,⟨fun b o e n hb hx=>?_,fun b o e n hb hx=>?_,fun b o e n hx=>?_,fun b o e hx=>?_,fun b xs e=>tups b xs (I.base.tups b xs e),fun b o xs e=>frzs b o xs (I.base.frzs b o xs e),fun b ps e=>?_⟩,?_,fun x c e=>?_,?_,fun x c e=>?_,fun p hp=>?_,hok,I.len⟩
 ·exact keep b o (neL b o e) hb (neC b o e hx) (I.base.keep b o e n hb hx) (I.base.free b o e n hx)
 ·obtain ⟨sl,e1⟩:=I.base.slot b o e n hb hx
  obtain ⟨sl',e2⟩:=slot b _ (neL b o e) hb (neC b o e hx) e1 (I.base.free b o e n hx)
  exact ⟨sl',e2⟩
 ·obtain ⟨o',e1⟩:=I.base.there b o e hx
  exact free b o' (neC b o e hx) e1 (I.base.free b o e n hx)
 ·obtain ⟨o',e1⟩:=I.base.there b o e hx
  exact there b o' (neC b o e hx) e1
 ·obtain ⟨m1,e1⟩:=I.base.tbls b ps e
  obtain ⟨m2,e2⟩:=tbls b _ e1
  exact ⟨m1++m2,by rw [e2,Array.append_assoc]⟩
 ·obtain ⟨m,hn,hl⟩:=I.loc
  refine ⟨m,ns m hn,fun i x v e1 e2 e3=>?_⟩
  obtain ⟨u,r,l⟩:=hl i x v e1 e2 e3
  refine ⟨u,r,?_⟩
  rcases l with l|⟨k,c,e,z⟩
  ·exact .inl l
  ·exact .inr ⟨k,c,e,cellK x c e _ z⟩
 ·obtain ⟨v,z⟩:=I.cell x c e
  exact ⟨v,cellK x c e v z⟩
 ·obtain ⟨m,⟨o,_,_,ho,_⟩,_⟩:=I.loc
  exact free _ o (fun z=>(hch _ z).2.1 rfl) ho I.free
 ·obtain ⟨v,o,ho,hd⟩:=I.cell x c e
  exact free c o (fun z=>(hch c z).2.2.1 x c e rfl) ho (I.freeC x c e)
 ·obtain ⟨e,n,ne,nf,d⟩:=I.pin p hp
  have nch:p.1 ∉ ch:=fun z=>(hch p.1 z).2.2.2 p hp rfl
  exact ⟨keep p.1 p.2 ne nf nch e n,free p.1 p.2 nch e n,ne,nf,d⟩
theorem Inv.un {t':Nat} (I:Inv X pins σ H s) (u:Un X.fs [] H H' s.heap h') (hok:HOk X.prog X.w H' h'):Inv X pins σ H' { s with heap:=h',toks:=t' }:=by
 obtain ⟨m,⟨o,es,ep,ho,r⟩,_⟩:=id I.loc
 obtain ⟨sl,hL⟩:=u.any ho I.free (by simp)
 exact I.step (g':=s.gens) (d':=s.drawn) (ch:=[]) (fun _ z=>nomatch z) (fun b o _ hb _ e n=>u.keep b o e n hb (by simp)) (fun b o _ hb _ e n=>u.slot b o e n hb (by simp)) (fun b o _ e n=>u.free b o e n (by simp)) (fun b o _ e=>u.there b o e (by simp)) u.tups u.frzs u.tbls (fun m' hm=>by
  obtain ⟨o',es',ep',ho',r'⟩:=hm
  rw [ho] at ho';cases ho'
  exact ⟨_,es',ep',hL,r'⟩) hok I.bare
theorem Inv.call {g':Array GenState} {t':Nat} {d':Drawn} (I:Inv X pins σ H s) (u:Un (frs X.stack) ch H H' s.heap h') (hok:HOk X.prog X.w H' h') (hg:AllBare g')
 (hch:∀ b∈ch,(b∈X.ex\/X.s₀.heap.objs.size<=b)/\b≠X.env.locals/\(∀ x c,X.env.cells.lookup x=some c->c≠b)/\∀ p∈X.pn++pins,p.1≠b) :
  Inv X pins σ H' { s with heap:=h',gens:=g',drawn:=d',toks:=t' }:=by
 obtain ⟨m,⟨o,es,ep,ho,r⟩,_⟩:=id I.loc
 obtain ⟨sl,hL⟩:=u.any ho I.free fun z=>(hch _ z).2.1 rfl
 exact I.step (ch:=ch) hch (fun b o hL hb hc e n=>u.keep b o e n (fun z=>(List.mem_cons.mp (I.stkSub b z)).elim hL hb) hc) (fun b o _ _ hc e n=>u.any e n hc) (fun b o hc e n=>u.free b o e n hc) (fun b o hc e=>u.there b o e hc) u.tups u.frzs u.tbls (fun m' hm=>by
  obtain ⟨o',es',ep',ho',r'⟩:=hm
  rw [ho] at ho';cases ho'
  exact ⟨_,es',ep',hL,r'⟩) hok hg
theorem Inv.turned {t':Nat} (I:Inv X pins σ H s) (k:∀ b o,b≠it->s.heap.get? b=some o->h'.get? b=some o) (hn:H it=none) (hL:it≠X.env.locals)
 (h1:it∈X.ex\/X.s₀.heap.objs.size<=it) (h2:∀ x c,X.env.cells.lookup x=some c->c≠it) (h3:∀ p∈X.pn++pins,p.1≠it):Inv X pins σ H { s with heap:=h',toks:=t' }:=by
 have nit:∀ b u,H b=some u->b≠it:=fun b u e z=>by rw [z,hn] at e;cases e
 refine I.step (g':=s.gens) (d':=s.drawn) (ch:=[it]) (fun b hb=>?_) (fun b o _ _ hc e _=>k b o (fun z=>hc (by simp [z])) e) (fun b o _ _ hc e _=>⟨o.slots,k b o (fun z=>hc (by simp [z])) e⟩) (fun _ _ _ _ n=>n)
  (fun b o hc e=>⟨o,k b o (fun z=>hc (by simp [z])) e⟩) (fun _ _ e=>e) (fun _ _ _ e=>e) (fun b ps e=>⟨#[],by rw [e];simp⟩) (fun m hm=>?_) (fun b u e=>?_) I.bare
 ·have e:b=it:=by simpa using hb
  subst e
  exact ⟨h1,hL,h2,h3⟩
 ·obtain ⟨o,es,ep,ho,r⟩:=hm
  exact ⟨o,es,ep,k _ o (Ne.symm hL) ho,r⟩
 ·refine (I.hok b u e).stay (fun c v hc q=>k c v ?_ q) (fun _ q=>q) fun _ _ q=>q
  rcases hc with z|z
  ·rw [z];exact nit b u e
  ·exact nit c _ z
theorem Inv.tok (I:Inv X pins σ H s) (t:Nat):Inv X pins σ H { s with toks:=t }:=I.un (h':=s.heap) (t':=t) Un.refl I.hok
theorem Inv.kept {t':Nat} (I:Inv X pins σ H s) (k:∀ b u,s.heap.get? b=some u->h'.get? b=some u):Inv X pins σ H { s with heap:=h',toks:=t' }:=I.un (Un.kept k) (I.hok.kept k)
theorem Inv.laid {o:HO} {t':Nat} (I:Inv X pins σ H s) (k:∀ b u,s.heap.get? b=some u->h'.get? b=some u) (hp:s.heap.objs.size<=a) (new:ObjOk X.prog X.w (upd H a o) h' a o) :
  Inv X pins σ (upd H a o) { s with heap:=h',toks:=t' }:=I.un (Un.laid k hp (I.hok.fresh hp)) (I.hok.laid k hp new)
theorem Inv.write {x e:Addr} {o:HO} {t':Nat} (I:Inv X pins σ H s) (mu:Mut (H x)) (he:e=x\/H e=some (.own x)) (k:∀ b u,b≠e->s.heap.get? b=some u->h'.get? b=some u) (heo:∃ u,h'.get? e=some u)
 (new:ObjOk X.prog X.w (upd H x o) h' x o):Inv X pins σ (upd H x o) { s with heap:=h',toks:=t' }:=I.un (Un.write mu he k heo) (I.hok.write mu he k heo new)
theorem Inv.pins_of {pins':List (Addr×Obj)} (I:Inv X pins σ H s) (h:∀ p∈pins',s.heap.get? p.1=some p.2/\H p.1=none/\p.1≠X.env.locals/\p.1 ∉ X.fs/\∀ v,p.2.data ≠ .cell v):Inv X pins' σ H s:=
 ⟨I.ok,I.os,I.bare,I.base,I.loc,I.cell,I.free,I.freeC,fun p hp=>(List.mem_append.mp hp).elim (fun z=>I.pin p (List.mem_append_left _ z)) (h p),I.hok,I.len⟩
theorem wf {N:List Str} (hN:N.Nodup) (a:N[i]?=some x) (b:N[j]?=some x):i=j:=by
 obtain ⟨h1,e1⟩:=List.getElem?_eq_some_iff.mp a
 obtain ⟨h2,e2⟩:=List.getElem?_eq_some_iff.mp b
 exact (List.getElem_inj hN).mp (e1.trans e2.symm)
theorem sF {M:Model} {A:Around} {Q:Unit->Shared->Prop} (I:Inv X pins σ H s) (hN:X.N.Nodup) (hi:X.N[i]?=some x) (hx:Loc X.env.scope x) (r:RelV v u)
 (h:∀ s',Inv X pins (σ.set i (some v)) H s'->(∃ a,Heap.SameBut a s.heap s'.heap/\(a=X.env.locals\/X.env.cells.lookup x=some a))->Q () s') (hf:X.fn x=true\/X.env.scope.names.lookup x=some .local:=by first|exact .inl rfl|exact .inr rfl|assumption):wpAny M A (storeName X.env x u) Q E s:=by
 obtain ⟨m,hn,hl⟩:=id I.loc
 have hcls:(X.env.scope.kind==.class || (X.env.scope.kind==.module && X.env.locals != X.env.globals))=false:=by rw [I.ok.kind];rfl
 have hiσ:i<σ.length:=by rw [I.len];exact (List.getElem?_eq_some_iff.mp hi).1
 have cne:=I.cne
 have tracked:∀ {a:Addr} {h':Heap},(∃ o,s.heap.get? a=some o/\H a=none)->Heap.SameBut a s.heap h'->HOk X.prog X.w H h':=fun {a h'} ha hs b ob e=>by
  obtain ⟨_,_,hfree⟩:=ha
  refine (I.hok b ob e).stay (fun c w' hc q=>(hs.2 c ?_).trans q) (fun _ q=>q) fun _ _ q=>q
  rintro rfl
  rcases hc with rfl|hc
  ·rw [hfree] at e;cases e
  ·rw [hfree] at hc;cases hc
 rcases hx with hk|hk
 ·refine wpAny_storeName_local hk hn (fun h' hn' hs=>?_) hcls
  obtain ⟨oL,_,_,hoL,_⟩:=id hn
  refine h _ ⟨I.ok,I.os,I.bare,⟨fun b o e n hb hx=>?_,fun b o e n hb hx=>?_,I.base.free,fun b o e hx=>?_,I.base.tups,I.base.frzs,I.base.tbls⟩,⟨_,hn',fun j y v' e1 e2 e3=>?_⟩,fun y c e=>?_,I.free,I.freeC,fun p hp=>?_,tracked ⟨oL,hoL,I.free⟩ hs,by simpa using I.len⟩ ⟨_,hs,.inl rfl⟩
  ·exact (hs.2 b (Nat.ne_of_lt (Nat.lt_of_lt_of_le (Heap.lt_size e) I.ok.above))).trans (I.base.keep b o e n hb hx)
  ·obtain ⟨sl,e1⟩:=I.base.slot b o e n hb hx
   exact ⟨sl,(hs.2 b (Nat.ne_of_lt (Nat.lt_of_lt_of_le (Heap.lt_size e) I.ok.above))).trans e1⟩
  ·obtain ⟨o',e1⟩:=I.base.there b o e hx
   exact ⟨o',(hs.2 b (Nat.ne_of_lt (Nat.lt_of_lt_of_le (Heap.lt_size e) I.ok.above))).trans e1⟩
  ·by_cases hj:j=i
   ·subst hj
    rw [hi] at e1;cases e1
    rw [List.getElem?_set_self hiσ] at e2
    cases e2
    exact ⟨u,r,.inl ⟨hk,by simp⟩⟩
   ·rw [List.getElem?_set_ne (Ne.symm hj)] at e2
    obtain ⟨u',r',q⟩:=hl j y v' e1 e2 e3
    refine ⟨u',r',?_⟩
    rcases q with ⟨k,e⟩|⟨k,c,e,z⟩
    ·refine .inl ⟨k,?_⟩
     have:y≠x:=fun e=>hj (wf hN e1 (e ▸ hi))
     simp [this,e]
    ·exact .inr ⟨k,c,e,z.sameBut hs (cne y c e)⟩
  ·obtain ⟨w',z⟩:=I.cell y c e
   exact ⟨w',z.sameBut hs (cne y c e)⟩
  ·obtain ⟨e,n,ne,nf,d⟩:=I.pin p hp
   exact ⟨(hs.2 p.1 ne).trans e,n,ne,nf,d⟩
 ·have hfn:X.fn x=true:=by
   rcases hf with z|z
   ·exact z
   ·rw [z] at hk;cases hk
  obtain ⟨c,hc⟩:=I.ok.has x (.inl hk)
  obtain ⟨w',z⟩:=I.cell x c hc
  refine wpAny_storeName_cell I.ok.kind hk hc z (fun h' hc' hs=>?_)
  obtain ⟨oc,hoc,hocd⟩:=id z
  refine h { s with heap:=h' } ⟨I.ok,I.os,I.bare,⟨fun b o e n hb hx=>?_,fun b o e n hb hx=>?_,I.base.free,fun b o e hx=>?_,I.base.tups,I.base.frzs,I.base.tbls⟩,⟨m,hn.sameBut hs (Ne.symm (cne x c hc)),fun j y v' e1 e2 e3=>?_⟩,fun y c' e=>?_,I.free,I.freeC,fun p hp=>?_,tracked ⟨oc,hoc,I.freeC x c hc⟩ hs,by simpa using I.len⟩ ⟨c,hs,.inr hc⟩
  ·exact (hs.2 b (Nat.ne_of_lt (Nat.lt_of_lt_of_le (Heap.lt_size e) (I.ok.cab x c hfn hc)))).trans (I.base.keep b o e n hb hx)
  ·obtain ⟨sl,e1⟩:=I.base.slot b o e n hb hx
   exact ⟨sl,(hs.2 b (Nat.ne_of_lt (Nat.lt_of_lt_of_le (Heap.lt_size e) (I.ok.cab x c hfn hc)))).trans e1⟩
  ·obtain ⟨o',e1⟩:=I.base.there b o e hx
   exact ⟨o',(hs.2 b (Nat.ne_of_lt (Nat.lt_of_lt_of_le (Heap.lt_size e) (I.ok.cab x c hfn hc)))).trans e1⟩
  ·by_cases hj:j=i
   ·subst hj
    rw [hi] at e1;cases e1
    rw [List.getElem?_set_self hiσ] at e2
    cases e2
    exact ⟨u,r,.inr ⟨.inl hk,c,hc,hc'⟩⟩
   ·rw [List.getElem?_set_ne (Ne.symm hj)] at e2
    obtain ⟨u',r',q⟩:=hl j y v' e1 e2 e3
    refine ⟨u',r',?_⟩
    rcases q with q|⟨k,c',e,z'⟩
    ·exact .inl q
    ·refine .inr ⟨k,c',e,z'.sameBut hs ?_⟩
     rintro rfl
     exact hj (wf hN e1 (I.ok.inj _ _ _ e hc ▸ hi))
  ·by_cases hcc:c'=c
   ·subst hcc;exact ⟨_,hc'⟩
   ·obtain ⟨w2,z2⟩:=I.cell y c' e
    exact ⟨w2,z2.sameBut hs hcc⟩
  ·obtain ⟨e,n,ne,nf,d⟩:=I.pin p hp
   refine ⟨(hs.2 p.1 ?_).trans e,n,ne,nf,d⟩
   intro q
   rw [q,hoc] at e
   have q':oc=p.2:=Option.some.inj e
   exact d w' (by rw [<- q'];exact hocd)
theorem lN {M:Model} {A:Around} {Q:Unit->Shared->Prop} (I:Inv X pins σ H s) (hN:X.N.Nodup) (hi:X.N[i]?=some x) (hx:Loc X.env.scope x) (r:RelV v u)
 (h:∀ s',Inv X pins (σ.set i (some v)) H s'->Q () s') (hf:X.fn x=true\/X.env.scope.names.lookup x=some .local:=by first|exact .inl rfl|exact .inr rfl|assumption):wpAny M A (storeName X.env x u) Q E s:=
 sF I hN hi hx r (fun s' I' _=>h s' I') hf
theorem Inv.call' (I:Inv X pins σ H s) (ho:s'.os=s.os) (u:Un (frs X.stack) ch H H' s.heap s'.heap) (hok:HOk X.prog X.w H' s'.heap) (hg:AllBare s'.gens)
 (hch:∀ b∈ch,(b∈X.ex\/X.s₀.heap.objs.size<=b)/\b≠X.env.locals/\(∀ x c,X.env.cells.lookup x=some c->c≠b)/\∀ p∈X.pn++pins,p.1≠b):Inv X pins σ H' s':=by
 obtain ⟨h',g',d',t',o'⟩:=s'
 have e:o'=s.os:=ho
 subst e
 exact I.call (g':=g') (t':=t') (d':=d') u hok hg hch
end
abbrev XK:=Value->Option Addr->Hp->Prop
abbrev St:=List (Option V)
abbrev VK:=V->Hp->Prop
abbrev TE:=St->Hp->VK->Prop
abbrev TT:=St->Hp->(Bool->Hp->Prop)->Prop
abbrev TA:=St->Hp->(List V->Hp->Prop)->Prop
structure Ends where
 nx:St->Hp->Prop
 rt:VK
 bk:St->Hp->Prop:=fun _ _=>False
 ct:St->Hp->Prop:=fun _ _=>False
abbrev TS:=Ends->St->Hp->Prop
noncomputable def EP (X:Cx) (pins:List (Addr×Obj)) (σ:St) (Q:VK) (u:Value) (s':Shared):Prop:=∃ v H',Inv X pins σ H' s'/\RelV v u/\Q v H'
noncomputable def TP (X:Cx) (pins:List (Addr×Obj)) (σ:St) (Q:Bool->Hp->Prop) (b:Bool) (s':Shared):Prop:=∃ H',Inv X pins σ H' s'/\Q b H'
noncomputable def AP (X:Cx) (pins:List (Addr×Obj)) (σ:St) (Q:List V->Hp->Prop) (us:List Value) (s':Shared):Prop:=∃ vs H',Inv X pins σ H' s'/\Vals vs us/\Q vs H'
noncomputable def SP (X:Cx) (pins:List (Addr×Obj)) (D:Ends) (f:Flow) (s':Shared):Prop:=
 match f with
 | .next=>∃ σ' H',Inv X pins σ' H' s'/\D.nx σ' H'
 | .brk=>∃ σ' H',Inv X pins σ' H' s'/\D.bk σ' H'
 | .cont=>∃ σ' H',Inv X pins σ' H' s'/\D.ct σ' H'
 | .ret u=>∃ v σ' H',Inv X pins σ' H' s'/\RelV v u/\D.rt v H'
noncomputable def PE (X:Cx) (e:Expr) (t:TE):Prop:=
 ∀ (pins:List (Addr×Obj)) (s:Shared) (σ:St) (H:Hp) (Q:VK),Inv X pins σ H s->t σ H Q->wpAny (model X.prog X.w) X.A (eval e X.env) (EP X pins σ Q) X.xe s
noncomputable def PT (X:Cx) (e:Expr) (t:TT):Prop:=
 ∀ (pins:List (Addr×Obj)) (s:Shared) (σ:St) (H:Hp) (Q:Bool->Hp->Prop),Inv X pins σ H s->t σ H Q->wpAny (model X.prog X.w) X.A (isTrue e X.env (eval e X.env)) (TP X pins σ Q) X.xe s
noncomputable def PW (X:Cx) (e:Expr) (t:TT):Prop:=
 ∀ (whole:Sem Value) (pins:List (Addr×Obj)) (s:Shared) (σ:St) (H:Hp) (Q:Bool->Hp->Prop),Inv X pins σ H s->t σ H Q->wpAny (model X.prog X.w) X.A (isTrue e X.env whole) (TP X pins σ Q) X.xe s
noncomputable def PA (X:Cx) (es:List Expr) (t:TA):Prop:=
 ∀ (pos:Pos) (pins:List (Addr×Obj)) (s:Shared) (σ:St) (H:Hp) (Q:List V->Hp->Prop),Inv X pins σ H s->t σ H Q->wpAny (model X.prog X.w) X.A (spliced (backTo pos (starEach es X.env))) (AP X pins σ Q) X.xe s
noncomputable def PS (X:Cx) (st:Stmt) (t:TS):Prop:=
 ∀ (pins:List (Addr×Obj)) (s:Shared) (σ:St) (H:Hp) (D:Ends),Inv X pins σ H s->t D σ H->wpAny (model X.prog X.w) X.A (exec st X.env) (SP X pins D) X.xe s
noncomputable def PSs (X:Cx) (st:List Stmt) (t:TS):Prop:=
 ∀ (pins:List (Addr×Obj)) (s:Shared) (σ:St) (H:Hp) (D:Ends),Inv X pins σ H s->t D σ H->wpAny (model X.prog X.w) X.A (execs st X.env) (SP X pins D) X.xe s
theorem thn {α:Type} {t:Sem α} {Q Q':α->Shared->Prop} {M:Model} {A:Around} (h:wpAny M A t Q E s) (hQ:∀ a s,Q a s->Q' a s):wpAny M A t Q' E s:=wpAny_mono h hQ fun _ _ x=>x
end L2
variable {σ:L2.St} {X:L2.Cx}
namespace L2
open PySem PySem.Spec PyProof.Rows
section
variable {X:Cx}
noncomputable def JL (i:Nat):TE:=fun σ H Q=>∃ v,σ[i]?=some (some v)/\Q v H
def tC (v:V):TE:=fun _ H Q=>Q v H
theorem gT (hN:X.N[i]?=some x) (hv:Vis X.env.scope x) (hd:(x==("__debug__":Str))=false:=by decide) (hcd:(x==("__classdict__":Str))=false:=by decide):PE X (.Name x pos) (JL i):=by
 intro pins s σ H Q I h
 obtain ⟨v,e,h⟩:=h
 obtain ⟨m,hn,hl⟩:=I.loc
 obtain ⟨u,r,l⟩:=hl i x v hN e hv
 have fin:EP X pins σ Q u s:=⟨v,H,I,r,h⟩
 rcases l with ⟨hk,hm⟩|⟨hk,c,hc,hcell⟩
 ·exact wpAny_Name (wpAny_loadName_local I.ok.kind hk hn hm fin) hd
 ·rcases hk with hk|hk
  ·exact wpAny_Name (wpAny_loadName_cell I.ok.kind hk hc hcell fin) hd
  ·exact wpAny_Name (wpAny_loadName_free I.ok.kind hk hc hcell fin hcd) hd
theorem JC {i j pos}:PE X (.Constant (.int i) j pos) (tC (.int i)):=fun _ _ _ H _ I h=>wpAny_Constant_int ⟨.int i,H,I.tok _,⟨_,rfl⟩,h⟩
theorem Lj {b j pos}:PE X (.Constant (.bool b) j pos) (tC (.bl b)):=fun _ _ _ H _ I h=>Constant_bool ⟨.bl b,H,I,rfl,h⟩
theorem Jo {j pos}:PE X (.Constant .none j pos) (tC .non):=fun _ _ _ H _ I h=>Constant_none ⟨.non,H,I,rfl,h⟩
theorem GU {x j pos}:PE X (.Constant (.str x) j pos) (tC (.str x)):=fun _ _ _ H _ I h=>Calls.Constant_str ⟨.str x,H,I.tok _,⟨_,rfl⟩,h⟩
noncomputable def Gl (X:Cx) (x:Str):Prop:=X.env.kindOf x=some .globalImplicit
theorem rj {Q:Value->Shared->Prop} (I:Inv X pins σ H s) (hg:Gl X x) (hm:X.mg x=some u) (h:Q u s)
 (hd:(x==("__debug__":Str))=false:=by decide):wpAny (model X.prog X.w) X.A (eval (.Name x pos) X.env) Q E s:=
 Calls.Name_function_global I.ok.kind hg (Calls.loadGlobal_global (by rw [I.ok.glob];exact I.mod.glob.keeps I.bk) hm h) hd
theorem lg {Q:Value->Shared->Prop} (I:Inv X pins σ H s) (hg:Gl X x) (hm:X.mg x=none) (hv:bootBuiltins x=some u) (h:Q u s)
 (hn:x ≠ "__name__":=by decide) (hd:(x==("__debug__":Str))=false:=by decide):wpAny (model X.prog X.w) X.A (eval (.Name x pos) X.env) Q E s:=by
 obtain ⟨mb,h1,h2⟩:=I.mod.blt
 exact Calls.Name_function_global I.ok.kind hg (Calls.loadGlobal_builtin (by rw [I.ok.glob];exact I.mod.glob.keeps I.bk) hm (by rw [I.ok.blt];exact h1.keeps I.bk) ((h2 x hn).trans hv) h) hd
theorem vR (hg:Gl X x) (hm:X.mg x=some u) (r:RelV v u) (hd:(x==("__debug__":Str))=false:=by decide):PE X (.Name x pos) (tC v):=
 fun _ _ _ H _ I h=>rj I hg hm ⟨v,H,I,r,h⟩ hd
theorem EA (hg:Gl X x) (hm:X.mg x=none) (hv:bootBuiltins x=some u) (r:RelV v u) (hn:x ≠ "__name__":=by decide) (hd:(x==("__debug__":Str))=false:=by decide):PE X (.Name x pos) (tC v):=
 fun _ _ _ H _ I h=>lg I hg hm hv ⟨v,H,I,r,h⟩ hn hd
variable {a b:Expr} {ta tb:TE} {pos:Pos}
variable {tA tB':TT} {cJ:List Expr}
noncomputable def MG (t u:TT):TT:=fun σ H Q=>t σ H fun c H1=>if c=true then u σ H1 Q else Q false H1
noncomputable def tOr (t u:TT):TT:=fun σ H Q=>t σ H fun c H1=>if c=true then Q true H1 else u σ H1 Q
def Mv (t:TT):TT:=fun σ H Q=>t σ H fun c H1=>Q (!c) H1
theorem Gb (ha:PT X a tA):PW X (.BoolOp .And [a] pos) tA:=by
 intro wh pins s σ H Q I h
 refine isTrue_and (thn (ha pins s σ H Q I h) fun c s1 e=>?_)
 cases c with
 | true=>exact isTrue_and_nil e
 | false=>exact e
theorem IW (ha:PT X a tA):PW X (.BoolOp .Or [a] pos) tA:=by
 intro wh pins s σ H Q I h
 refine isTrue_or (thn (ha pins s σ H Q I h) fun c s1 e=>?_)
 cases c with
 | false=>exact isTrue_or_nil e
 | true=>exact e
theorem Jv (ha:PT X a tA) (hb:PW X (.BoolOp .And (b::cJ) pos) tB'):PW X (.BoolOp .And (a::b::cJ) pos) (MG tA tB'):=by
 intro wh pins s σ H Q I h
 refine isTrue_and (thn (ha pins s σ H _ I h) fun c s1 ⟨H1,I1,q1⟩=>?_)
 cases c with
 | true=>exact hb wh pins s1 σ H1 Q I1 q1
 | false=>exact ⟨H1,I1,q1⟩
theorem KQ (ha:PT X a tA) (hb:PW X (.BoolOp .Or (b::cJ) pos) tB'):PW X (.BoolOp .Or (a::b::cJ) pos) (tOr tA tB'):=by
 intro wh pins s σ H Q I h
 refine isTrue_or (thn (ha pins s σ H _ I h) fun c s1 ⟨H1,I1,q1⟩=>?_)
 cases c with
 | true=>exact ⟨H1,I1,q1⟩
 | false=>exact hb wh pins s1 σ H1 Q I1 q1
theorem IM (ha:PT X a tA):PT X (.UnaryOp .Not a pos) (Mv tA):=by
 intro pins s σ H Q I h
 exact isTrue_not (ha pins s σ H (fun c H1=>Q (!c) H1) I h)
noncomputable def LS (ta tb:TE):TE:=fun σ H Q=>ta σ H fun x H1=>∃ c,x=.bl c/\if c=true then tb σ H1 Q else Q (.bl false) H1
noncomputable def Na (ta tb:TE):TE:=fun σ H Q=>ta σ H fun x H1=>∃ c,x=.bl c/\if c=true then Q (.bl true) H1 else tb σ H1 Q
noncomputable def KM (ta:TE):TE:=fun σ H Q=>ta σ H fun x H1=>∃ c,x=.bl c/\Q (.bl (!c)) H1
theorem JD {op} {t:TE} (h:PE X a t):PE X (.BoolOp op [a] pos) t:=fun pins s σ H Q I hw=>BoolOp_one (h pins s σ H Q I hw)
theorem Ih (ha:PE X a ta) (hb:PE X (.BoolOp .And (b::cJ) pos) tb):PE X (.BoolOp .And (a::b::cJ) pos) (LS ta tb):=by
 intro pins s σ H Q I h
 refine BoolOp_and (thn (ha pins s σ H _ I h) fun v s1 ⟨x,H1,I1,r1,q1⟩=>?_)
 obtain ⟨c,rfl,q1⟩:=q1
 cases r1
 refine wpAny_truthy_bool ?_
 cases c with
 | true=>exact hb pins s1 σ H1 Q I1 q1
 | false=>exact ⟨.bl false,H1,I1,rfl,q1⟩
theorem LL (ha:PE X a ta) (hb:PE X (.BoolOp .Or (b::cJ) pos) tb):PE X (.BoolOp .Or (a::b::cJ) pos) (Na ta tb):=by
 intro pins s σ H Q I h
 refine BoolOp_or (thn (ha pins s σ H _ I h) fun v s1 ⟨x,H1,I1,r1,q1⟩=>?_)
 obtain ⟨c,rfl,q1⟩:=q1
 cases r1
 refine wpAny_truthy_bool ?_
 cases c with
 | false=>exact hb pins s1 σ H1 Q I1 q1
 | true=>exact ⟨.bl true,H1,I1,rfl,q1⟩
theorem GW (ha:PE X a ta):PE X (.UnaryOp .Not a pos) (KM ta):=by
 intro pins s σ H Q I h
 refine UnaryOp_ (thn (ha pins s σ H _ I h) fun v s1 ⟨x,H1,I1,r1,q1⟩=>?_)
 obtain ⟨c,rfl,q1⟩:=q1
 cases r1
 exact not_of (wpAny_truthy_bool ⟨.bl (!c),H1,I1,rfl,q1⟩)
noncomputable def tIf (t:TT) (ta tb:TE):TE:=fun σ H Q=>t σ H fun c H1=>if c=true then ta σ H1 Q else tb σ H1 Q
theorem Cz {c:Expr} (hc:PT X c tA) (ha:PE X a ta) (hb:PE X b tb):PE X (.IfExp c a b pos) (tIf tA ta tb):=by
 intro pins s σ H Q I h
 refine wpAny_IfExp (thn (hc pins s σ H _ I h) fun d s1 ⟨H1,I1,q1⟩=>?_)
 cases d with
 | true=>exact ha pins s1 σ H1 Q I1 q1
 | false=>exact hb pins s1 σ H1 Q I1 q1
end
noncomputable def SqL (K:W.Frag) (H:Hp) (a:Addr) (xs:List V):Prop:=
 Rd H a (.lst xs)\/
  ∃ (o:Obj) (its:Array Value) (n:Nat),K.lookup a=some o/\o.cls=.type "list"/\o.dict=none/\o.data=.seq its n/\its.size<=sizeLine/\Vals xs its.toList
noncomputable def SqT (K:W.Frag) (H:Hp) (a:Addr) (xs:List V):Prop:=
 Rd H a (.tup xs)\/
  ∃ (o:Obj) (its:Array Value) (n:Nat),K.lookup a=some o/\o.cls=.type "tuple"/\o.data=.seq its n/\its.size<=sizeLine/\Vals xs its.toList
noncomputable def Nd:Value->Option V
 | .none=>some .non
 | .bool b=>some (.bl b)
 | .int i _=>some (.int i)
 | .str x _=>some (.str x)
 | .bytes b _=>some (.byt b)
 | .float b _=>some (.flt b)
 | .ref a=>some (.ref a)
 | .type n=>some (.ty n)
 | _=>none
theorem RelV.abs {x:V} (r:RelV x u):Nd u=some x:=by
 cases x with
 | non=>cases r;rfl
 | bl _=>cases r;rfl
 | int _=>obtain ⟨t,rfl⟩:=r;rfl
 | str _=>obtain ⟨t,rfl⟩:=r;rfl
 | byt _=>obtain ⟨t,rfl⟩:=r;rfl
 | flt _=>obtain ⟨t,rfl⟩:=r;rfl
 | ref _=>cases r;rfl
 | ty _=>cases r;rfl
theorem RelV.inj {x y:V} (r:RelV x u) (q:RelV y u):x=y:=Option.some.inj (r.abs.symm.trans q.abs)
theorem Vals.inj:∀ {xs ys:List V} {us:List Value},Vals xs us->Vals ys us->xs=ys
 | _,_,_,.nil,.nil=>rfl
 | _,_,_,.cons r t,.cons r' t'=>by rw [r.inj r',Vals.inj t t']
section
variable {X:Cx} {pins:List (Addr×Obj)} {σ:St} {H:Hp} {s:Shared} {a:Addr} {xs ys:List V}
theorem SqL.of {K:W.Frag} (h:H a=some (.lst xs)):SqL K H a xs:=.inl (.inl h)
theorem SqT.of {K:W.Frag} (h:H a=some (.tup xs)):SqT K H a xs:=.inl (.inl h)
theorem Inv.list (I:Inv X pins σ H s) (h:SqL X.K H a xs):∃ its:List Value,Vals xs its/\PlainL s.heap a its.toArray/\xs.length<=sizeLine:=by
 rcases h with h|⟨o,its,n,hk,hc,hd,hs,hz,r⟩
 ·obtain ⟨z,its,n,r,e⟩:=h.ok I.hok
  exact ⟨its,r,⟨_,n,e,rfl,rfl,rfl⟩,z⟩
 ·refine ⟨its.toList,r,⟨o,n,I.kIn a o hk,hc,hd,by simpa using hs⟩,?_⟩
  have e:=r.length
  simp only [Array.length_toList] at e
  omega
theorem Inv.tuple (I:Inv X pins σ H s) (h:SqT X.K H a xs):∃ its:List Value,Vals xs its/\IsTup s.heap a its.toArray/\xs.length<=sizeLine:=by
 rcases h with h|⟨o,its,n,hk,hc,hs,hz,r⟩
 ·obtain ⟨z,its,r,p⟩:=h.ok I.hok
  exact ⟨its,r,p,z⟩
 ·refine ⟨its.toList,r,⟨o,I.kIn a o hk,hc,n,by simpa using hs⟩,?_⟩
  have e:=r.length
  simp only [Array.length_toList] at e
  omega
theorem Inv.list_inj (I:Inv X pins σ H s) (h:SqL X.K H a xs) (h':SqL X.K H a ys):xs=ys:=by
 obtain ⟨its,r,⟨o,n,e,_,_,d⟩,_⟩:=I.list h
 obtain ⟨its',r',⟨o',n',e',_,_,d'⟩,_⟩:=I.list h'
 rw [e] at e';cases e'
 rw [d] at d'
 injection d' with d1 _
 have:its=its':=by simpa using congrArg Array.toList d1
 subst this
 exact r.inj r'
theorem Inv.tuple_inj (I:Inv X pins σ H s) (h:SqT X.K H a xs) (h':SqT X.K H a ys):xs=ys:=by
 obtain ⟨its,r,⟨o,e,_,n,d⟩,_⟩:=I.tuple h
 obtain ⟨its',r',⟨o',e',_,n',d'⟩,_⟩:=I.tuple h'
 rw [e] at e';cases e'
 rw [d] at d'
 injection d' with d1 _
 have:its=its':=by simpa using congrArg Array.toList d1
 subst this
 exact r.inj r'
end
noncomputable abbrev Cx.wish (X:Cx) (E:Value->Shared->Prop):Cx:={ X with xe:=E }
section
variable {X:Cx} {st:Stmt} {cJ:List Stmt} {t u:TS} {e:Expr} {te:TE} {pos:Pos}
def Kn:TS:=fun D σ H=>D.nx σ H
def Mu (t u:TS):TS:=fun D σ H=>t { D with nx:=u D } σ H
theorem FI:PSs X [] Kn:=fun _ _ σ H _ I h=>wpAny_execs_nil ⟨σ,H,I,h⟩
theorem qz (h1:PS X st t) (h2:PSs X cJ u):PSs X (st::cJ) (Mu t u):=by
 intro pins s σ H D I h
 refine wpAny_execs_cons (thn (h1 pins s σ H { D with nx:=u D } I h) fun f s1 q=>?_)
 cases f with
 | next=>
  obtain ⟨σ',H',I',q⟩:=q
  exact h2 pins s1 σ' H' D I' q
 | ret v=>exact q
 | brk=>exact q
 | cont=>exact q
theorem Inv.quiet (I:Inv X pins σ H s):interactive X.env=false:=by simp [interactive,I.ok.kind]
def Kt (te:TE):TS:=fun D σ H=>te σ H fun _ H1=>D.nx σ H1
theorem oQ (he:PE X e te) (hs:swapsWith e none pos.line X.env=pure false:=by rfl):PS X (.Expr e pos) (Kt te):=by
 intro pins s σ H D I h
 exact wpAny_Expr_any (thn (he pins s σ H _ I h) fun v s1 ⟨x,H1,I1,r1,q1⟩=>⟨σ,H1,I1,q1⟩) I.quiet hs
def NN (te:TE):TS:=fun D σ H=>te σ H D.rt
theorem Ei (he:PE X e te):PS X (.Return (some e) pos) (NN te):=by
 intro pins s σ H D I h
 exact wpAny_Return_some (thn (he pins s σ H _ I h) fun v s1 ⟨x,H1,I1,r1,q1⟩=>⟨x,σ,H1,I1,r1,q1⟩)
noncomputable def M5 (c:TT) (t u:TS):TS:=fun D σ H=>c σ H fun b H1=>if b=true then t D σ H1 else u D σ H1
theorem H8 {c:Expr} {a b:List Stmt} {tc:TT} (hc:PT X c tc) (ha:PSs X a t) (hb:PSs X b u):PS X (.If c a b pos) (M5 tc t u):=by
 intro pins s σ H D I h
 refine wpAny_If (thn (hc pins s σ H _ I h) fun d s1 ⟨H1,I1,q1⟩=>?_)
 cases d with
 | true=>exact ha pins s1 σ H1 D I1 q1
 | false=>exact hb pins s1 σ H1 D I1 q1
end
abbrev TG:=V->St->Hp->(St->Hp->Prop)->Prop
abbrev TGs:=List V->St->Hp->(St->Hp->Prop)->Prop
noncomputable def PG (X:Cx) (target:Expr) (t:TG):Prop:=
 ∀ (pins:List (Addr×Obj)) (s:Shared) (σ:St) (H:Hp) (v:V) (u:Value) (Q:St->Hp->Prop),Inv X pins σ H s->RelV v u->t v σ H Q->
  wpAny (model X.prog X.w) X.A (assign target X.env u) (fun _ s'=>∃ σ' H',Inv X pins σ' H' s'/\Q σ' H') X.xe s
noncomputable def PGs (X:Cx) (ts:List Expr) (t:TGs):Prop:=
 ∀ (pins:List (Addr×Obj)) (s:Shared) (σ:St) (H:Hp) (vs:List V) (us:List Value) (Q:St->Hp->Prop),Inv X pins σ H s->Vals vs us->t vs σ H Q->
  wpAny (model X.prog X.w) X.A (assignInOrder ((assignEach ts X.env).map (·.2)) us) (fun _ s'=>∃ σ' H',Inv X pins σ' H' s'/\Q σ' H') X.xe s
abbrev JS:=V->V->V->Hp->(Hp->Prop)->Prop
noncomputable def KT (X:Cx) (t:JS):Prop:=
 ∀ (pins:List (Addr×Obj)) (s:Shared) (σ:St) (H:Hp) (o i v:V) (ov iv u:Value) (Q:Hp->Prop),Inv X pins σ H s->RelV o ov->RelV i iv->RelV v u->t o i v H Q->
  wpAny (model X.prog X.w) X.A (setItem ov iv u) (fun _ s'=>∃ H',Inv X pins σ H' s'/\Q H') X.xe s
section
variable {X:Cx} {pos:Pos}
def Ks (i:Nat):TG:=fun v σ H Q=>Q (σ.set i (some v)) H
theorem kE (hN:X.N.Nodup) (hi:X.N[i]?=some x) (hx:Loc X.env.scope x) (hf:X.fn x=true\/X.env.scope.names.lookup x=some .local:=by first|exact .inl rfl|exact .inr rfl|assumption):PG X (.Name x pos) (Ks i):=by
 intro pins s σ H v u Q I r h
 exact wpAny_assign_Name (lN I hN hi hx r (fun s' I'=>⟨_,H,I',h⟩) hf)
def M8:TGs:=fun vs σ H Q=>vs=[]/\Q σ H
noncomputable def J5 (t:TG) (u:TGs):TGs:=fun vs σ H Q=>∃ v r,vs=v::r/\t v σ H fun σ' H'=>u r σ' H' Q
theorem FS:PGs X [] M8:=by
 intro pins s σ H vs us Q I r h
 obtain ⟨e,h⟩:=h
 subst e
 cases r
 exact assignInOrder_nil ⟨σ,H,I,h⟩
theorem Dj {e:Expr} {t:TG} {u:TGs} (h1:PG X e t) (h2:PGs X es u)
 (hs:(assignEach (e::es) X.env).map (·.2)=assign e X.env::(assignEach es X.env).map (·.2):=by rfl):PGs X (e::es) (J5 t u):=by
 intro pins s σ H vs us Q I r h
 obtain ⟨v,vr,e1,h⟩:=h
 subst e1
 cases r with
 | cons r rr=>
  rw [hs]
  refine assignInOrder_cons (thn (h1 pins s σ H _ _ _ I r h) fun _ s1 ⟨σ1,H1,I1,q1⟩=>?_)
  exact h2 pins s1 σ1 H1 _ _ Q I1 rr q1
noncomputable def Nj (K:W.Frag) (n:Nat) (t:TGs):TG:=fun v σ H Q=>∃ a xs,v=.ref a/\SqT K H a xs/\xs.length=n/\t xs σ H Q
theorem Hi {t:TGs} {n:Nat} (hc:X.calm=true) (h:PGs X es t)
 (hn:(assignEach es X.env).length=n:=by rfl) (hst:(assignEach es X.env).findIdx? (·.1)=none:=by rfl):PG X (.Tuple es k pos) (Nj X.K n t):=by
 intro pins s σ H v u Q I r hw
 obtain ⟨a,xs,e1,hq,hl,hw⟩:=hw
 subst e1
 cases r
 obtain ⟨its,rv,ht,hz⟩:=I.tuple hq
 refine assign_Tuple_tuple (I.ok.hd hc) ht (by simp [hn,<- hl,rv.length]) hst fun h' hx=>?_
 have I1:Inv X pins σ H { s with heap:=h' }:=I.kept (t':=s.toks) fun b o e=>hx b o (Nat.ne_of_lt (Heap.lt_size e)) e
 exact h pins _ σ H xs _ Q I1 (by simpa using rv) hw
noncomputable def Lr (to ti:TE) (t:JS):TG:=fun v σ H Q=>to σ H fun o H1=>ti σ H1 fun i H2=>t o i v H2 fun H3=>Q σ H3
theorem El {o i:Expr} {to ti:TE} {t:JS} (ho:PE X o to) (hi:PE X i ti) (hs:KT X t)
 (ha:∀ v,assign (.Subscript o i pos) X.env v=(do
 let ov <- holding [v] (eval o X.env)
 let iv <- holding [v,ov] (eval i X.env)
 standAt pos
 holding [v,ov,iv] (setItem ov iv v)
 release [v,ov,iv] []):=by intro _;rfl):PG X (.Subscript o i pos) (Lr to ti t):=by
 intro pins s σ H v u Q I r h
 rw [ha]
 refine wpAny_bind (wpAny_holding (thn (ho pins s σ H _ I h) fun ov s1 ⟨x,H1,I1,r1,q1⟩=>?_))
 refine wpAny_bind (wpAny_holding (thn (hi pins s1 σ H1 _ I1 q1) fun iv s2 ⟨y,H2,I2,r2,q2⟩=>?_))
 refine wpAny_bind (wpAny_standAt (wpAny_bind (wpAny_holding (thn (hs pins s2 σ H2 x y v ov iv u _ I2 r1 r2 r q2) fun _ s3 ⟨H3,I3,q3⟩=>?_))))
 exact wpAny_release ⟨σ,H3,I3,q3⟩
noncomputable def Ng (te:TE) (g:TG):TS:=fun D σ H=>te σ H fun x H1=>g x σ H1 D.nx
theorem oh {e:Expr} {te:TE} {g:TG} (he:PE X e te) (hg:PG X tg g) (hs:swapsWithSole [tg] e pos.line X.env=pure false:=by rfl) (hw:swappedStores [tg] e X.env=pure none:=by rfl)
 (h1:(assignEach [tg] X.env).map (·.2)=[assign tg X.env]:=by rfl):PS X (.Assign [tg] e pos) (Ng te g):=by
 intro pins s σ H D I h
 refine wpAny_Assign_stores (thn (he pins s σ H _ I h) fun v s1 ⟨x,H1,I1,r1,q1⟩=>?_) hs hw
 rw [h1]
 exact thn (hg pins s1 σ H1 x v _ I1 r1 q1) fun _ s2 q=>q
end
structure It where
 go:Nat->Hp->Prop
 yld:Nat->Hp->V->Hp->Prop
 stop:Nat->Hp->Prop
noncomputable def pe (X:Cx) (pins:List (Addr×Obj)) (H:Hp) (b:Addr):Prop:=
 H b=none/\b≠X.env.locals/\b ∉ X.fs/\(b∈X.ex\/X.s₀.heap.objs.size<=b)/\(∀ x c,X.env.cells.lookup x=some c->c≠b)/\∀ p∈X.pn++pins,p.1≠b
theorem Inv.fpOk (I:Inv X pins σ H s) (hb:s.heap.objs.size<=b) (hn:H' b=none):pe X pins H' b:=by
 refine ⟨hn,Nat.ne_of_gt (Nat.lt_of_lt_of_le I.lt hb),I.nofs hb,.inr (Nat.le_trans I.sz hb),fun x c e z=>?_,fun p hp z=>?_⟩
 ·obtain ⟨v,q⟩:=I.cell x c e
  exact absurd (Nat.lt_of_lt_of_le q.lt (by rw [z];exact hb)) (Nat.lt_irrefl _)
 ·exact absurd (Nat.lt_of_lt_of_le (Heap.lt_size (I.pin p hp).1) (by rw [z];exact hb)) (Nat.lt_irrefl _)
structure Turn (P:Program) (w:World) (K:W.Frag) (tg:Expr) (J:It) (fp:List Addr) (it:Addr) (tn:Nat->Heap->Prop):Prop where
 mem:it∈fp
 obj:∀ i h,tn i h->∀ b∈fp,∃ o,h.get? b=some o/\∀ v,o.data ≠ .cell v
 keep:∀ i h h',tn i h->(∀ b∈fp,∀ o,h.get? b=some o->h'.get? b=some o)->tn i h'
 item:∀ (X:Cx),X.prog=P->X.w=w->X.K=K->X.calm=true->∀ (i:Nat) (pins:List (Addr×Obj)) (s:Shared) (σ:St) (H:Hp) (E:Value->Shared->Prop),Inv X pins σ H s->(∀ b∈fp,pe X pins H b)->tn i s.heap->J.go i H->
  wpAny (model P w) X.A (pyNext (.ref it)) (fun r s1=>∃ u,r=some u/\
   wpAny (model P w) X.A (letOwnedTupleGo tg (.ref it) u) (fun _ s2=>∃ x H',Inv X pins σ H' s2/\RelV x u/\J.yld i H x H'/\tn (i+1) s2.heap/\∀ b∈fp,H' b=none) E s1) E s
 done:∀ (X:Cx),X.prog=P->X.w=w->X.K=K->X.calm=true->∀ (i:Nat) (pins:List (Addr×Obj)) (s:Shared) (σ:St) (H:Hp) (E:Value->Shared->Prop),Inv X pins σ H s->(∀ b∈fp,pe X pins H b)->tn i s.heap->J.stop i H->
  wpAny (model P w) X.A (pyNext (.ref it)) (fun r s1=>r=none/\Inv X pins σ H s1) E s
 self:∀ (A:Around) (i:Nat) (s:Shared) (Q:Value->Shared->Prop) (E:Value->Shared->Prop),tn i s.heap->Q (.ref it) s->wpAny (model P w) A (pyIter (.ref it)) Q E s
abbrev TI:=St->Hp->(It->Hp->Prop)->Prop
noncomputable def PIE (X:Cx) (pins:List (Addr×Obj)) (σ:St) (tg:Expr) (R:It->Hp->Prop) (itv:Value) (s2:Shared):Prop:=
 ∃ (it:Addr) (fp:List Addr) (tn:Nat->Heap->Prop) (J:It) (H':Hp),itv=.ref it/\Inv X pins σ H' s2/\Turn X.prog X.w X.K tg J fp it tn/\tn 0 s2.heap/\(∀ b∈fp,pe X pins H' b)/\R J H'
noncomputable def PI (X:Cx) (tg iter:Expr) (wi:TI):Prop:=
 ∀ (pins:List (Addr×Obj)) (s:Shared) (σ:St) (H:Hp) (R:It->Hp->Prop),Inv X pins σ H s->wi σ H R->
  wpAny (model X.prog X.w) X.A (eval iter X.env) (fun v s1=>wpAny (model X.prog X.w) X.A (pyIter v) (PIE X pins σ tg R) X.xe s1) X.xe s
theorem Ap {M : Model} {A : Around} {n : String} {vs : Array Value} {Q : Unit -> Shared -> Prop} (ho : s.heap.get? it = some o) (hc : o.cls = .type n) (hd : o.data = .fields vs)
 (hn : ["enumerate", "zip", "dict_itemiterator", "dict_reverseitemiterator", "odict_iterator", "itertools.zip_longest", "itertools.pairwise"].contains n = false) (hQ : Q () s) : wpAny M A (letOwnedTupleGo tg (.ref it) u) Q E s := by
  unfold letOwnedTupleGo
  cases tg <;> first
    | exact wpAny_pure hQ
    | (cases u <;> first
        | exact wpAny_pure hQ
        | (refine wpAny_bind (wpAny_load ho ?_)
           rw [hc, hd]
           show wpAny M A (if (["enumerate", "zip", "dict_itemiterator", "dict_reverseitemiterator", "odict_iterator", "itertools.zip_longest", "itertools.pairwise"].contains n && vs[0]? == some (rawInt _)) = true then _ else _) Q E s
           rw [if_neg (by intro h; rw [hn, Bool.false_and] at h; cases h)]
           exact wpAny_pure hQ))

noncomputable def Itl (K:W.Frag) (a:Addr):It:=
 ⟨fun i H=>∃ xs x,SqL K H a xs/\xs[i]?=some x,fun i H x H'=>H'=H/\∀ xs,SqL K H a xs->xs[i]?=some x,fun i H=>∃ xs,SqL K H a xs/\xs.length<=i⟩
noncomputable def Itt (K:W.Frag) (a:Addr):It:=
 ⟨fun i H=>∃ xs x,SqT K H a xs/\xs[i]?=some x,fun i H x H'=>H'=H/\∀ xs,SqT K H a xs->xs[i]?=some x,fun i H=>∃ xs,SqT K H a xs/\xs.length<=i⟩
noncomputable def Itr (lo:Int) (n:Nat):It:=⟨fun i _=>i<n,fun i H x H'=>H'=H/\x=.int (lo+i),fun i _=>n<=i⟩
theorem AD {w:World} {K:W.Frag} (a it:Addr):Turn P w K tg (Itl K a) [it] it (fun i h=>h.IsListIter it a i) where
 mem:=by simp
 obj:=fun i h st b hb=>by
  have e:b=it:=by simpa using hb
  subst e
  obtain ⟨o,e,c,d⟩:=st
  exact ⟨o,e,fun v z=>by rw [d] at z;cases z⟩
 keep:=fun i h h' st k=>st.at fun o e=>k it (by simp) o e
 item:=by
  intro X hP hw hK hc i pins s σ H E I hf st hg
  subst hP hw hK
  obtain ⟨xs,x,hq,hx⟩:=hg
  obtain ⟨its,rv,p,hz⟩:=I.list hq
  obtain ⟨u,hu,ru⟩:=rv.get hx
  obtain ⟨f0,f1,f2,f3,f4,f5⟩:=hf it (by simp)
  refine wpAny_pyNext_list_item st p.isList (x:=u) (by simpa using hu) fun h' st' sb=>?_
  have I1:Inv X pins σ H { s with heap:=h' }:=I.turned (t':=s.toks) (fun b o hb e=>(sb.2 b hb).trans e) f0 f1 f3 f4 f5
  obtain ⟨o,e,c,d⟩:=id st'
  exact ⟨u,rfl,Ap (s:={ s with heap:=h' }) e c d (by decide) ⟨x,H,I1,ru,⟨rfl,fun ys hy=>by rw [I.list_inj hy hq];exact hx⟩,st',fun b hb=>(hf b hb).1⟩⟩
 done:=by
  intro X hP hw hK hc i pins s σ H E I hf st hg
  subst hP hw hK
  obtain ⟨xs,hq,hx⟩:=hg
  obtain ⟨its,rv,p,hz⟩:=I.list hq
  obtain ⟨f0,f1,f2,f3,f4,f5⟩:=hf it (by simp)
  have hl:=rv.length
  exact wpAny_pyNext_list_end (I.ok.hd hc) st p.isList (by simp;omega) fun h' eb=>⟨rfl,I.turned (t':=s.toks) (fun b o hb e=>eb b o hb e) f0 f1 f3 f4 f5⟩
 self:=fun _ _ _ _ _ st h=>wpAny_pyIter_listiter st h
theorem yI {w:World} {K:W.Frag} (a it:Addr):Turn P w K tg (Itt K a) [it] it (fun i h=>h.IsTupleIter it a i) where
 mem:=by simp
 obj:=fun i h st b hb=>by
  have e:b=it:=by simpa using hb
  subst e
  obtain ⟨o,e,c,d⟩:=st
  exact ⟨o,e,fun v z=>by rw [d] at z;cases z⟩
 keep:=fun i h h' st k=>st.at fun o e=>k it (by simp) o e
 item:=by
  intro X hP hw hK hc i pins s σ H E I hf st hg
  subst hP hw hK
  obtain ⟨xs,x,hq,hx⟩:=hg
  obtain ⟨its,rv,p,hz⟩:=I.tuple hq
  obtain ⟨u,hu,ru⟩:=rv.get hx
  obtain ⟨f0,f1,f2,f3,f4,f5⟩:=hf it (by simp)
  refine wpAny_pyNext_tuple_item st (show s.heap.IsTuple a its.toArray from p) (x:=u) (by simpa using hu) fun h' st' sb=>?_
  have I1:Inv X pins σ H { s with heap:=h' }:=I.turned (t':=s.toks) (fun b o hb e=>(sb.2 b hb).trans e) f0 f1 f3 f4 f5
  obtain ⟨o,e,c,d⟩:=id st'
  exact ⟨u,rfl,Ap (s:={ s with heap:=h' }) e c d (by decide) ⟨x,H,I1,ru,⟨rfl,fun ys hy=>by rw [I.tuple_inj hy hq];exact hx⟩,st',fun b hb=>(hf b hb).1⟩⟩
 done:=by
  intro X hP hw hK hc i pins s σ H E I hf st hg
  subst hP hw hK
  obtain ⟨xs,hq,hx⟩:=hg
  obtain ⟨its,rv,p,hz⟩:=I.tuple hq
  obtain ⟨f0,f1,f2,f3,f4,f5⟩:=hf it (by simp)
  have hl:=rv.length
  exact wpAny_pyNext_tuple_end (I.ok.hd hc) st (show s.heap.IsTuple a its.toArray from p) (by simp;omega) fun h' eb=>⟨rfl,I.turned (t':=s.toks) (fun b o hb e=>eb b o hb e) f0 f1 f3 f4 f5⟩
 self:=fun _ _ _ _ _ st h=>wpAny_pyIter_tupleiter st h
theorem xU {w:World} {K:W.Frag} (it:Addr) (lo:Int) (n:Nat):Turn P w K tg (Itr lo n) [it] it (fun i h=>IsRangeIter h it (lo+(i:Nat) * 1) ((n:Int) - (i:Nat)) 1) where
 mem:=by simp
 obj:=fun i h st b hb=>by
  have e:b=it:=by simpa using hb
  subst e
  exact ⟨_,st,fun v z=>by
   have z':Data.fields _=Data.cell v:=z
   cases z'⟩
 keep:=fun i h h' st k=>k it (by simp) _ st
 item:=by
  intro X hP hw hK hc i pins s σ H E I hf st hg
  subst hP hw hK
  obtain ⟨f0,f1,f2,f3,f4,f5⟩:=hf it (by simp)
  have W:=Walks.range (prog:=X.prog) (w:=X.w) (I.ok.hd hc) it lo 1 n
  refine W.item i s _ _ hg st fun v h' tk hv st' kk=>?_
  obtain ⟨t,rfl⟩:=hv
  have I1:Inv X pins σ H { s with heap:=h',toks:=tk }:=I.turned (fun b o hb e=>kk b o (by simpa using hb) e) f0 f1 f3 f4 f5
  refine ⟨_,rfl,Ap (s:={ s with heap:=h',toks:=tk }) (n:="range_iterator") st' rfl rfl (by decide) ⟨.int (lo+i),H,I1,⟨t,?_⟩,⟨rfl,rfl⟩,st',fun b hb=>(hf b hb).1⟩⟩
  rw [Int.mul_one]
 done:=by
  intro X hP hw hK hc i pins s σ H E I hf st hg
  subst hP hw hK
  obtain ⟨f0,f1,f2,f3,f4,f5⟩:=hf it (by simp)
  exact wpAny_pyNext_range_end (I.ok.hd hc) st (by have:n<=i:=hg;omega) fun h' eb=>⟨rfl,I.turned (t':=s.toks) (fun b o hb e=>eb b o hb e) f0 f1 f3 f4 f5⟩
 self:=fun _ _ _ _ _ st h=>wpAny_pyIter_rangeiter st h
section
variable {X:Cx} {tg:Expr}
theorem xB {R:It->Hp->Prop} {lo hi:Int} {t u v:Tok} {tk:Nat} (I:Inv X pins σ H s) (h1 : -(2 ^ 62)<=lo) (h2:lo<2 ^ 62) (h3 : -(2 ^ 62)<=hi) (h4:hi<2 ^ 62)
 (q:R (Itr lo (hi - lo).toNat) H):wpAny (model X.prog X.w) X.A (pyIter (.ref s.heap.objs.size)) (PIE X pins σ tg R) E { s with heap:=s.heap.push { cls:=.type "range",data:=.fields #[.int lo t,.int hi u,.int 1 v] },toks:=tk }:=by
 refine wpAny_pyIter_range (IsRange.new ..) (small_one h1 h2 h3 h4) ?_
 have I1:Inv X pins σ H { s with heap:=s.heap.push { cls:=.type "range",data:=.fields #[.int lo t,.int hi u,.int 1 v] },toks:=tk }:=I.kept fun b o e=>Heap.get?_push_of_some _ e
 refine ⟨(s.heap.push { cls:=.type "range",data:=.fields #[.int lo t,.int hi u,.int 1 v] }).objs.size,[(s.heap.push { cls:=.type "range",data:=.fields #[.int lo t,.int hi u,.int 1 v] }).objs.size],_,_,H,rfl,
  I1.kept (t':=tk) fun b o e=>Heap.get?_push_of_some _ e,xU _ lo (hi - lo).toNat,?_,fun b hb=>?_,q⟩
 ·have e1:lo+((0:Nat):Int) * 1=lo:=by simp
  have e2:(((hi - lo).toNat:Nat):Int) - ((0:Nat):Int)=Builtin.Range.rangeSize lo hi 1:=by rw [rangeSize_one];split <;> omega
  show IsRangeIter _ _ (lo+((0:Nat):Int) * 1) ((((hi - lo).toNat:Nat):Int) - ((0:Nat):Int)) 1
  rw [e1,e2]
  exact Heap.get?_push_size _ rfl
 ·have e:b=(s.heap.push { cls:=.type "range",data:=.fields #[.int lo t,.int hi u,.int 1 v] }).objs.size:=by simpa using hb
  subst e
  exact I1.fpOk (Nat.le_refl _) (I1.hok.fresh (Nat.le_refl _))
noncomputable def Lm (ta:TA):TI:=fun σ H R=>ta σ H fun vs H1=>∃ j:Int,vs=[.int j]/\-(2 ^ 62)<=j/\j<2 ^ 62/\R (Itr 0 j.toNat) H1
noncomputable def J3 (ta:TA):TI:=fun σ H R=>ta σ H fun vs H1=>∃ i j:Int,vs=[.int i,.int j]/\(-(2 ^ 62)<=i/\i<2 ^ 62/\-(2 ^ 62)<=j/\j<2 ^ 62)/\R (Itr i (j - i).toNat) H1
theorem AR {a:Expr} {ta:TA} (hg:Gl X "range") (hm:X.mg "range"=none) (ha:PA X [a] ta) (hs:starEach [a] X.env=[(false,eval a X.env)]:=by rfl):PI X tg (.Call (.Name "range" p) [a] [] pos) (Lm ta):=by
 intro pins s σ H R I h
 refine Call_ (lg I hg hm boot_range (callWith_type1 (thn (ha pos pins s σ H _ I h) fun us s1 ⟨vs,H1,I1,r1,q1⟩=>?_) hs rfl))
 obtain ⟨j,e,q1,q2,q⟩:=q1
 subst e
 cases r1 with
 | cons r rr=>
  cases rr
  obtain ⟨t,rfl⟩:=r
  exact call_range_1 (xB I1 (by omega) (by omega) q1 q2 (by simpa using q))
theorem Bh {a b:Expr} {ta:TA} (hg:Gl X "range") (hm:X.mg "range"=none) (ha:PA X [a,b] ta) (hs:starEach [a,b] X.env=[(false,eval a X.env),(false,eval b X.env)]:=by rfl) (hs2:starEach [b] X.env=[(false,eval b X.env)]:=by rfl) :
  PI X tg (.Call (.Name "range" p) [a,b] [] pos) (J3 ta):=by
 intro pins s σ H R I h
 refine Call_ (lg I hg hm boot_range (callWith_type1 (thn (ha pos pins s σ H _ I h) fun us s1 ⟨vs,H1,I1,r1,q1⟩=>?_) (by rw [hs,hs2]) (by rw [hs2];rfl)))
 obtain ⟨i,j,e,⟨q1,q2,q3,q4⟩,q⟩:=q1
 subst e
 cases r1 with
 | cons r rr=>
  cases rr with
  | cons r' rr=>
   cases rr
   obtain ⟨t,rfl⟩:=r
   obtain ⟨t',rfl⟩:=r'
   exact call_range_2 (xB I1 q1 q2 q3 q4 q)
noncomputable def Mr (wi:TI) (g:TG) (tb:TS):TS:=fun D σ H=>wi σ H fun J H1=>∃ W:Nat->Nat->St->Hp->Prop,(∃ m,W 0 m σ H1)/\∀ i m σ H,W i m σ H->
 (J.stop i H/\D.nx σ H)\/(J.go i H/\∃ N:St->Hp->Prop,(∀ σ' H',N σ' H'->∃ m',m'<m/\W (i+1) m' σ' H')/\∀ x H',J.yld i H x H'->g x σ H' fun σ2 H2=>tb { D with nx:=N,ct:=N,bk:=D.nx } σ2 H2)
noncomputable def sP (fp:List Addr) (h:Heap):List (Addr×Obj):=fp.filterMap fun b=>(h.get? b).map fun o=>(b,o)
theorem ki (hb:b∈fp) (e:h.get? b=some o):(b,o)∈sP fp h:=List.mem_filterMap.mpr ⟨b,hb,by rw [e];rfl⟩
theorem Ay {p:Addr×Obj} (hp:p∈sP fp h):p.1∈fp/\h.get? p.1=some p.2:=by
 obtain ⟨b,hb,e⟩:=List.mem_filterMap.mp hp
 cases q:h.get? b with
 | none=>rw [q] at e;cases e
 | some o=>
  rw [q] at e
  have e':(b,o)=p:=Option.some.inj e
  subst e'
  exact ⟨hb,q⟩
theorem Inv.pinned (I:Inv X pins σ H s) (hf:∀ b∈fp,pe X pins H b) (ho:∀ b∈fp,∃ o,s.heap.get? b=some o/\∀ v,o.data ≠ .cell v):Inv X (pins++sP fp s.heap) σ H s:=
 I.pins_of fun p hp=>(List.mem_append.mp hp).elim (fun z=>I.pin p (List.mem_append_right _ z)) fun z=>by
  obtain ⟨hb,e⟩:=Ay z
  obtain ⟨f0,f1,f2,_⟩:=hf p.1 hb
  obtain ⟨o,e',d⟩:=ho p.1 hb
  rw [e] at e';cases e'
  exact ⟨e,f0,f1,f2,d⟩
theorem Inv.unpinned {pl:List (Addr×Obj)} (I:Inv X (pins++pl) σ H s):Inv X pins σ H s:=I.pins_of fun p hp=>I.pin p (List.mem_append_right _ (List.mem_append_left _ hp))
theorem DN {body:List Stmt} {wi:TI} {g:TG} {tb:TS} (hp:PassesOwn (model X.prog X.w) X.A X.env X.xe) (hc:X.calm=true) (hi:PI X tg iter wi) (hg:PG X tg g) (hb:PSs X body tb)
 (hs:∀ x,foldedSetIterable iter X.env x=pure x:=by intro _;rfl):PS X (.For tg iter body [] pos) (Mr wi g tb):=by
 intro pins s σ H D I h
 refine wpAny_For (thn (hi pins s σ H _ I h) fun v s1 h1=>thn h1 fun itv s2 h2=>?_) hs
 obtain ⟨it,fp,tn,J,H2,e,I2,T,st2,f2,W,⟨m0,w0⟩,turn⟩:=h2
 subst e
 have stat:∀ {H':Hp},(∀ b∈fp,H' b=none)->∀ b∈fp,pe X pins H' b:=fun hn b hb=>⟨hn b hb,(f2 b hb).2⟩
 refine codeAny_forLoop_any (fun n s'=>∃ i σ' H',Inv X pins σ' H' s'/\tn i s'.heap/\(∀ b∈fp,H' b=none)/\W i n σ' H') ?_ m0 ⟨0,σ,H2,I2,st2,fun b hb=>(f2 b hb).1,w0⟩
 rintro n s3 ⟨i,σ3,H3,I3,st3,fr3,w3⟩
 rcases turn i n σ3 H3 w3 with ⟨stop,qn⟩|⟨go,N,hN,step⟩
 ·refine wpAny_passesOwn hp (thn (T.done X rfl rfl rfl hc i pins s3 σ3 H3 X.xe I3 (stat fr3) st3 stop) fun r s4 ⟨hr,I4⟩=>?_)
  subst hr
  exact wpAny_execs_nil ⟨σ3,H3,I4,qn⟩
 ·refine wpAny_passesOwn hp (thn (T.item X rfl rfl rfl hc i pins s3 σ3 H3 X.xe I3 (stat fr3) st3 go) fun r s4 ⟨u,hr,h4⟩=>?_)
  subst hr
  refine wpAny_passesOwn hp (thn h4 fun _ s5 ⟨x,H5,I5,r5,y5,st5,fr5⟩=>?_)
  have I5':=I5.pinned (stat fr5) (T.obj _ _ st5)
  refine wpAny_passesOwn hp (thn (hg _ s5 σ3 H5 x u _ I5' r5 (step x H5 y5)) fun _ s6 ⟨σ6,H6,I6,q6⟩=>?_)
  refine wpAny_passesOwn hp (thn (hb _ s6 σ6 H6 _ I6 q6) fun f s7 q7=>?_)
  have again:∀ {σ7:St} {H7:Hp},Inv X (pins++sP fp s5.heap) σ7 H7 s7->N σ7 H7->∃ m,m<n/\∃ i σ' H',Inv X pins σ' H' s7/\tn i s7.heap/\(∀ b∈fp,H' b=none)/\W i m σ' H':=fun {σ7 H7} I7 n7=>by
   obtain ⟨m',hm,w7⟩:=hN σ7 H7 n7
   refine ⟨m',hm,i+1,σ7,H7,I7.unpinned,T.keep _ _ _ st5 fun b hb o e=>(I7.pin (b,o) (List.mem_append_right _ (List.mem_append_right _ (ki hb e)))).1,fun b hb=>?_,w7⟩
   obtain ⟨o,e,d⟩:=T.obj _ _ st5 b hb
   exact (I7.pin (b,o) (List.mem_append_right _ (List.mem_append_right _ (ki hb e)))).2.1
  cases f with
  | next=>obtain ⟨σ7,H7,I7,n7⟩:=q7;exact again I7 n7
  | cont=>obtain ⟨σ7,H7,I7,n7⟩:=q7;exact again I7 n7
  | brk=>obtain ⟨σ7,H7,I7,q7⟩:=q7;exact ⟨σ7,H7,I7.unpinned,q7⟩
  | ret v=>obtain ⟨x7,σ7,H7,I7,r7,q7⟩:=q7;exact ⟨x7,σ7,H7,I7.unpinned,r7,q7⟩
end
abbrev R2:=V->V->Hp->VK->Prop
noncomputable def OpR (X:Cx) (f:Value->Value->Sem Value) (r:R2):Prop:=
 ∀ (pins:List (Addr×Obj)) (s:Shared) (σ:St) (H:Hp) (x y:V) (v u:Value) (Q:VK),Inv X pins σ H s->RelV x v->RelV y u->r x y H Q->
  wpAny (model X.prog X.w) X.A (f v u) (EP X pins σ Q) X.xe s
noncomputable def UnR (X:Cx) (f:Value->Sem Value) (r:V->Hp->VK->Prop):Prop:=
 ∀ (pins:List (Addr×Obj)) (s:Shared) (σ:St) (H:Hp) (x:V) (v:Value) (Q:VK),Inv X pins σ H s->RelV x v->r x H Q->
  wpAny (model X.prog X.w) X.A (f v) (EP X pins σ Q) X.xe s
noncomputable def nJ (X:Cx) (f:Value) (r:List V->Hp->VK->Prop):Prop:=
 ∀ (pins:List (Addr×Obj)) (s:Shared) (σ:St) (H:Hp) (xs:List V) (us:List Value) (Q:VK),Inv X pins σ H s->Vals xs us->r xs H Q->
  wpAny (model X.prog X.w) X.A (call f us) (EP X pins σ Q) X.xe s
noncomputable def MH (X:Cx) (r:V->Hp->(Bool->Hp->Prop)->Prop):Prop:=
 ∀ (pins:List (Addr×Obj)) (s:Shared) (σ:St) (H:Hp) (x:V) (v:Value) (Q:Bool->Hp->Prop),Inv X pins σ H s->RelV x v->r x H Q->
  wpAny (model X.prog X.w) X.A (truthy v) (TP X pins σ Q) X.xe s
noncomputable def tOp (r:R2) (ta tb:TE):TE:=fun σ H Q=>ta σ H fun x H1=>tb σ H1 fun y H2=>r x y H2 Q
noncomputable def tUn (r:V->Hp->VK->Prop) (ta:TE):TE:=fun σ H Q=>ta σ H fun x H1=>r x H1 Q
noncomputable def rI (C:Int->Int->Prop) (g:Int->Int->V):R2:=fun x y H Q=>∃ i j,x=.int i/\y=.int j/\C i j/\Q (g i j) H
noncomputable def rI0 (g:Int->Int->V):R2:=fun x y H Q=>∃ i j,x=.int i/\y=.int j/\Q (g i j) H
noncomputable def rU (g:Int->V):V->Hp->VK->Prop:=fun x H Q=>∃ i,x=.int i/\Q (g i) H
section
variable {X:Cx} {a b c:Expr} {ta tb tc:TE} {pos:Pos}
theorem LO (ha:PE X a ta) (hb:PE X b tb) {R:V->V->Hp->Prop} (I:Inv X pins σ H s)
 (h:ta σ H fun x H1=>tb σ H1 fun y H2=>R x y H2) {Q:Value->Shared->Prop} {f:Value->Value->Sem Value}
 (hf:∀ v u s2 x y H2,Inv X pins σ H2 s2->RelV x v->RelV y u->R x y H2->wpAny (model X.prog X.w) X.A (f v u) Q X.xe s2) :
  wpAny (model X.prog X.w) X.A (eval a X.env) (fun v s₁=>wpAny (model X.prog X.w) X.A (eval b X.env) (fun u s₂=>wpAny (model X.prog X.w) X.A (f v u) Q X.xe s₂) X.xe s₁) X.xe s:=by
 refine thn (ha pins s σ H _ I h) fun v s1 ⟨x,H1,I1,r1,q1⟩=>?_
 refine thn (hb pins s1 σ H1 _ I1 q1) fun u s2 ⟨y,H2,I2,r2,q2⟩=>?_
 exact hf v u s2 x y H2 I2 r1 r2 q2
theorem LJ {op:Operator} {r:R2} (ho:OpR X (binaryOp op) r) (ha:PE X a ta) (hb:PE X b tb):PE X (.BinOp a op b pos) (tOp r ta tb):=by
 intro pins s σ H Q I h
 exact wpAny_BinOp (LO ha hb I h fun v u s2 x y H2 I2 rx ry q=>ho pins s2 σ H2 x y v u Q I2 rx ry q)
theorem Lw {op:UnaryOp} {r:V->Hp->VK->Prop} (ho:UnR X (unaryOp op) r) (ha:PE X a ta):PE X (.UnaryOp op a pos) (tUn r ta):=by
 intro pins s σ H Q I h
 exact UnaryOp_ (thn (ha pins s σ H _ I h) fun v s1 ⟨x,H1,I1,r1,q1⟩=>ho pins s1 σ H1 x v Q I1 r1 q1)
theorem opI {f:Value->Value->Sem Value} {C:Int->Int->Prop} {g:Int->Int->Int}
 (rule:∀ (i j:Int) (t u:Tok) (s:Shared) (Q:Value->Shared->Prop) (E:Value->Shared->Prop),C i j->Q (.int (g i j) s.toks) { s with toks:=s.toks+1 }->wpAny (model X.prog X.w) X.A (f (.int i t) (.int j u)) Q E s) :
  OpR X f (rI C fun i j=>.int (g i j)):=by
 intro pins s σ H x y v u Q I rx ry h
 obtain ⟨i,j,rfl,rfl,hc,q⟩:=h
 obtain ⟨t,rfl⟩:=rx
 obtain ⟨t',rfl⟩:=ry
 exact rule i j t t' s _ _ hc ⟨.int (g i j),H,I.tok _,⟨_,rfl⟩,q⟩
theorem L1 {f:Value->Value->Sem Value} {g:Int->Int->Int}
 (rule:∀ (i j:Int) (t u:Tok) (s:Shared) (Q:Value->Shared->Prop) (E:Value->Shared->Prop),Q (.int (g i j) s.toks) { s with toks:=s.toks+1 }->wpAny (model X.prog X.w) X.A (f (.int i t) (.int j u)) Q E s) :
  OpR X f (rI0 fun i j=>.int (g i j)):=by
 intro pins s σ H x y v u Q I rx ry h
 obtain ⟨i,j,rfl,rfl,q⟩:=h
 obtain ⟨t,rfl⟩:=rx
 obtain ⟨t',rfl⟩:=ry
 exact rule i j t t' s _ _ ⟨.int (g i j),H,I.tok _,⟨_,rfl⟩,q⟩
theorem JP {f:Value->Value->Sem Value} {g:Int->Int->Bool}
 (rule:∀ (i j:Int) (t u:Tok) (s:Shared) (Q:Value->Shared->Prop) (E:Value->Shared->Prop),Q (.bool (g i j)) s->wpAny (model X.prog X.w) X.A (f (.int i t) (.int j u)) Q E s) :
  OpR X f (rI0 fun i j=>.bl (g i j)):=by
 intro pins s σ H x y v u Q I rx ry h
 obtain ⟨i,j,rfl,rfl,q⟩:=h
 obtain ⟨t,rfl⟩:=rx
 obtain ⟨t',rfl⟩:=ry
 exact rule i j t t' s _ _ ⟨.bl (g i j),H,I,rfl,q⟩
def Nx (i j:Int):Prop:=0<j/\j<1073741824
noncomputable def CMul (i j:Int):Prop:=(-(2 ^ 64)<i/\i<2 ^ 64)\/(-(2 ^ 64)<j/\j<2 ^ 64)
theorem CMul.ok {i j:Int} (h:CMul i j):IntMulOk i j:=by
 rcases h with ⟨h1,h2⟩|⟨h1,h2⟩
 ·exact .of_left (intBits_le_64 h1 h2)
 ·exact .of_right (intBits_le_64 h1 h2)
theorem op_add:OpR X (binaryOp .Add) (rI0 fun i j=>.int (i+j)):=L1 fun _ _ _ _ _ _ _ q=>add_int q
theorem Ji:OpR X (binaryOp .Sub) (rI0 fun i j=>.int (i - j)):=L1 fun _ _ _ _ _ _ _ q=>sub_int q
theorem op_mul:OpR X (binaryOp .Mult) (rI CMul fun i j=>.int (i * j)):=opI fun _ _ _ _ _ _ _ hc q=>mul_int q hc.ok
theorem Fc:OpR X (binaryOp .FloorDiv) (rI Nx fun i j=>.int (i / j)):=opI fun i j _ _ _ _ _ hc q=>by
 have h1:(0:Int)<j:=hc.1
 have h2:j<1073741824:=hc.2
 exact floordiv_int (by omega) (by rw [Int.fdiv_eq_ediv_of_nonneg i (by omega)];exact q) (.inl (PyProof.noPylong_small (by omega)))
theorem HN:OpR X (binaryOp .Mod) (rI (fun _ j=>0<j) fun i j=>.int (i % j)):=opI fun i j _ _ _ _ _ hc q=>by
 have h1:(0:Int)<j:=hc
 exact mod_int' (by omega) (by rw [Int.fmod_eq_emod_of_nonneg i (by omega)];exact q)
theorem unI {f:Value->Sem Value} {g:Int->Int}
 (rule:∀ (i:Int) (t:Tok) (s:Shared) (Q:Value->Shared->Prop) (E:Value->Shared->Prop),Q (.int (g i) s.toks) { s with toks:=s.toks+1 }->wpAny (model X.prog X.w) X.A (f (.int i t)) Q E s) :
  UnR X f (rU fun i=>.int (g i)):=by
 intro pins s σ H x v Q I rx h
 obtain ⟨i,rfl,q⟩:=h
 obtain ⟨t,rfl⟩:=rx
 exact rule i t s _ _ ⟨.int (g i),H,I.tok _,⟨_,rfl⟩,q⟩
theorem JA:UnR X (unaryOp .USub) (rU fun i=>.int (-i)):=unI fun _ _ _ _ _ q=>neg_int q
end
section
variable {X:Cx} {a b c:Expr} {ta tb tc:TE} {pos:Pos}
theorem ze {Q:VK} {k k':Bool} (I:Inv X pins σ H s) (q:Q (.bl k) H) (e:k=k'):EP X pins σ Q (.bool k') s:=by
 subst e
 exact ⟨.bl k,H,I,rfl,q⟩
theorem op_lt:OpR X (compareOp .Lt) (rI0 fun i j=>.bl (decide (i<j))):=JP fun _ _ _ _ _ _ _ q=>lt_int q
theorem op_le:OpR X (compareOp .LtE) (rI0 fun i j=>.bl (decide (i<=j))):=JP fun _ _ _ _ _ _ _ q=>le_int q
theorem KZ:OpR X (compareOp .Gt) (rI0 fun i j=>.bl (decide (j<i))):=JP fun _ _ _ _ _ _ _ q=>gt_int q
theorem KR:OpR X (compareOp .GtE) (rI0 fun i j=>.bl (decide (j<=i))):=JP fun _ _ _ _ _ _ _ q=>ge_int q
theorem AA:OpR X (compareOp .Lt) (fun x y H Q=>∃ i j,x=.str i/\y=.str j/\Q (.bl (decide (i.cps.toList<j.cps.toList))) H):=by
 intro pins s σ H x y v u Q I rx ry h
 obtain ⟨i,j,rfl,rfl,q⟩:=h
 obtain ⟨t,rfl⟩:=rx
 obtain ⟨t',rfl⟩:=ry
 exact lt_str (ze I q rfl)
theorem op_isN:OpR X (compareOp .Is) (fun x y H Q=>y=.non/\Q (.bl (decide (x=.non))) H):=by
 intro pins s σ H x y v u Q I rx ry h
 obtain ⟨rfl,q⟩:=h
 cases ry
 refine is_none_gen (ze I q ?_)
 cases x <;> first
  | (cases rx;rfl)
  | (obtain ⟨t,rfl⟩:=rx;rfl)
theorem OpR.or {f:Value->Value->Sem Value} {r r':R2} (h:OpR X f r) (h':OpR X f r'):OpR X f (fun x y H Q=>r x y H Q\/r' x y H Q):=by
 intro pins s σ H x y v u Q I rx ry q
 rcases q with q|q
 ·exact h pins s σ H x y v u Q I rx ry q
 ·exact h' pins s σ H x y v u Q I rx ry q
theorem jP (b:Expr) {op:CmpOp} (h:op ≠ .In:=by decide) (h2:op ≠ .NotIn:=by decide):behindInMarks op b=false:=by
 have e1:(op==CmpOp.In)=false:=by cases op <;> first|rfl|exact absurd rfl h
 have e2:(op==CmpOp.NotIn)=false:=by cases op <;> first|rfl|exact absurd rfl h2
 cases b <;> simp [behindInMarks,e1,e2]
theorem Fg {op:CmpOp} {r:R2} (ho:OpR X (compareOp op) r) (ha:PE X a ta) (hb:PE X b tb) (hm:behindInMarks op b=false):PE X (.Compare a [op] [b] pos) (tOp r ta tb):=by
 intro pins s σ H Q I h
 exact wpAny_Compare1 (LO ha hb I h fun v u s2 x y H2 I2 rx ry q=>ho pins s2 σ H2 x y v u Q I2 rx ry q) hm
noncomputable def Ez (t:TE):TT:=fun σ H Q=>t σ H fun x H'=>∃ k,x=.bl k/\Q k H'
theorem vm {op:CmpOp} {r:R2} (ho:OpR X (compareOp op) r) (ha:PE X a ta) (hb:PE X b tb) (hm:behindInMarks op b=false):PT X (.Compare a [op] [b] pos) (Ez (tOp r ta tb)):=by
 intro pins s σ H Q I h
 refine wpAny_isTrue_Compare1 (thn (ha pins s σ H _ I h) fun v s1 ⟨x,H1,I1,r1,q1⟩=>thn (hb pins s1 σ H1 _ I1 q1) fun u s2 ⟨y,H2,I2,r2,q2⟩=>
  thn (ho pins s2 σ H2 x y v u _ I2 r1 r2 q2) fun c s3 ⟨z,H3,I3,r3,k,e,q3⟩=>?_) hm
 subst e
 cases r3
 exact wpAny_truthy_bool ⟨H3,I3,q3⟩
noncomputable def DM (r r':R2) (ta tb tc:TE):TE:=fun σ H Q=>ta σ H fun x H1=>tb σ H1 fun y H2=>r x y H2 fun z H3=>∃ k,z=.bl k/\
 (if k=true then tc σ H3 fun w' H4=>r' y w' H4 Q else Q (.bl false) H3)
theorem C6 {op op':CmpOp} {r r':R2} (ho:OpR X (compareOp op) r) (ho':OpR X (compareOp op') r') (ha:PE X a ta) (hb:PE X b tb) (hc:PE X c tc)
 (hm:lastMarks [op,op'] [b,c]=false:=by with_unfolding_all rfl):PE X (.Compare a [op,op'] [b,c] pos) (DM r r' ta tb tc):=by
 intro pins s σ H Q I h
 refine Compare_chain (thn (ha pins s σ H _ I h) fun v s1 ⟨x,H1,I1,r1,q1⟩=>chain_link (thn (hb pins s1 σ H1 _ I1 q1) fun u s2 ⟨y,H2,I2,r2,q2⟩=>
  thn (ho pins s2 σ H2 x y v u _ I2 r1 r2 q2) fun d s3 ⟨z,H3,I3,r3,k,e,q3⟩=>?_)) hm
 subst e
 cases r3
 refine wpAny_truthy_bool ?_
 cases k with
 | false=>exact ite_ff ⟨.bl false,H3,I3,rfl,q3⟩
 | true=>exact ite_tt (chain_last (thn (hc pins s3 σ H3 _ I3 q3) fun w' s4 ⟨z',H4,I4,r4,q4⟩=>ho' pins s4 σ H4 y z' u w' Q I4 r2 r4 q4))
theorem Dg {op op':CmpOp} {r r':R2} (ho:OpR X (compareOp op) r) (ho':OpR X (compareOp op') r') (ha:PE X a ta) (hb:PE X b tb) (hc:PE X c tc)
 (hm:lastMarks [op,op'] [b,c]=false:=by with_unfolding_all rfl):PT X (.Compare a [op,op'] [b,c] pos) (Ez (DM r r' ta tb tc)):=by
 intro pins s σ H Q I h
 refine isTrue_chain (thn (ha pins s σ H _ I h) fun v s1 ⟨x,H1,I1,r1,q1⟩=>test_link (thn (hb pins s1 σ H1 _ I1 q1) fun u s2 ⟨y,H2,I2,r2,q2⟩=>
  thn (ho pins s2 σ H2 x y v u _ I2 r1 r2 q2) fun d s3 ⟨z,H3,I3,r3,k,e,q3⟩=>?_)) hm
 subst e
 cases r3
 refine wpAny_truthy_bool ?_
 cases k with
 | false=>
  obtain ⟨k',e',q'⟩:=q3
  cases e'
  exact ite_ff ⟨H3,I3,q'⟩
 | true=>
  refine ite_tt (test_last (thn (hc pins s3 σ H3 _ I3 q3) fun w' s4 ⟨z',H4,I4,r4,q4⟩=>thn (ho' pins s4 σ H4 y z' u w' _ I4 r2 r4 q4) fun d' s5 ⟨z2,H5,I5,r5,k2,e2,q5⟩=>?_))
  subst e2
  cases r5
  exact wpAny_truthy_bool ⟨H5,I5,q5⟩
noncomputable def Ma (K:W.Frag) (x:V) (H:Hp) (k:Bool):Prop:=
 match x with
 | .non=>k=false
 | .bl b=>k=b
 | .int i=>k=(i != 0)
 | .str y=>y.length<=sizeLine/\k=((y.length:Int) != 0)
 | .byt y=>y.size<=sizeLine/\k=((y.size:Int) != 0)
 | .ref p=>(∃ xs,SqL K H p xs/\k = !xs.isEmpty)\/(∃ xs,SqT K H p xs/\k = !xs.isEmpty)\/∃ kvs,H p=some (.dK kvs)/\k = !kvs.isEmpty
 | _=>False
theorem ye {κ:Type} {kvs:List (κ×V)} {vs:List (κ×Value)} (r:KV kvs vs):(!vs.isEmpty) = !kvs.isEmpty:=by
 cases r <;> rfl
theorem pq (r:Vals xs its):(!its.toArray.isEmpty) = !xs.isEmpty:=by
 cases r <;> simp
theorem pO:(sizeLine:Nat)<2 ^ 63:=by rw [sizeLine_eq];decide
theorem Ig:MH X (fun x H Q=>∃ k,Ma X.K x H k/\Q k H):=by
 intro pins s σ H x v Q I rx h
 obtain ⟨k,e,q⟩:=h
 have hl:=pO
 have hs:sizeLine=16777216:=sizeLine_eq
 cases x with
 | non=>
  cases rx
  have e':k=false:=e
  subst e'
  exact truthy_none ⟨H,I,q⟩
 | bl b=>
  cases rx
  have e':k=b:=e
  subst e'
  exact wpAny_truthy_bool ⟨H,I,q⟩
 | int i=>
  obtain ⟨t,rfl⟩:=rx
  have e':k=(i != 0):=e
  subst e'
  exact PySem.P.truthy_int ⟨H,I,q⟩
 | str y=>
  obtain ⟨t,rfl⟩:=rx
  obtain ⟨hy,e'⟩:y.length<=sizeLine/\k=((y.length:Int) != 0):=e
  subst e'
  exact PySem.P.truthy_str (by omega) ⟨H,I.tok _,q⟩
 | byt y=>
  obtain ⟨t,rfl⟩:=rx
  obtain ⟨hy,e'⟩:y.size<=sizeLine/\k=((y.size:Int) != 0):=e
  subst e'
  exact W.truthy_bytes (by omega) ⟨H,I.tok _,q⟩
 | ref p=>
  cases rx
  have e':(∃ xs,SqL X.K H p xs/\k = !xs.isEmpty)\/(∃ xs,SqT X.K H p xs/\k = !xs.isEmpty)\/∃ kvs,H p=some (.dK kvs)/\k = !kvs.isEmpty:=e
  rcases e' with ⟨xs,hx,e'⟩|⟨xs,hx,e'⟩|⟨kvs,hx,e'⟩
  ·subst e'
   obtain ⟨its,r,pl,hz⟩:=I.list hx
   have hlen:=r.length
   exact wpAny_truthy_list pl.isList (by simp only [List.size_toArray];omega) ⟨H,I.tok _,by rw [pq r];exact q⟩
  ·subst e'
   obtain ⟨its,r,pl,hz⟩:=I.tuple hx
   have hlen:=r.length
   exact truthy_tuple pl (by simp only [List.size_toArray];omega) ⟨H,I.tok _,by rw [pq r];exact q⟩
  ·subst e'
   obtain ⟨hz,hS,vs,r,m⟩:kvs.length<=sizeLine/\(p==sysModules)=false/\∃ vs,KV kvs vs/\s.heap.DictOf (vP X.prog X.w) p vs:=I.hok p _ hx
   have hlen:kvs.length=vs.length:=Paired.length r
   exact wpAny_truthy_dict hS m (by omega) ⟨H,I.tok _,by rw [ye r];exact q⟩
 | _=>exact (show False from e).elim
theorem BO (ha:PE X a ta) (he:∀ whole,isTrue a X.env whole=(do let v <- whole;standAt a.pos;holding [v] (truthy v))) :
  PT X a (fun σ H Q=>ta σ H fun x H'=>∃ k,Ma X.K x H' k/\Q k H'):=by
 intro pins s σ H Q I h
 exact isTrue_plain (thn (ha pins s σ H _ I h) fun v s1 ⟨x,H1,I1,r1,q1⟩=>Ig pins s1 σ H1 x v Q I1 r1 q1) (he _)
theorem op_add_str:OpR X (binaryOp .Add) (fun x y H Q=>∃ i j,x=.str i/\y=.str j/\i.length+j.length<=sizeLine/\Q (.str (i++j)) H):=by
 intro pins s σ H x y v u Q I rx ry h
 obtain ⟨i,j,rfl,rfl,hz,q⟩:=h
 obtain ⟨t,rfl⟩:=rx
 obtain ⟨t',rfl⟩:=ry
 exact add_str (fun t' tk=>⟨.str (i++j),H,I.tok _,⟨_,rfl⟩,q⟩) hz
theorem CC {x:V} (r:Vals [x] us):∃ u,us=[u]/\RelV x u:=by
 cases r with
 | cons r1 r2=>cases r2;exact ⟨_,rfl,r1⟩
noncomputable def MW (K:W.Frag) (x:V) (H:Hp) (n:Nat):Prop:=
 match x with
 | .str y=>y.length<=sizeLine/\n=y.length
 | .byt y=>y.size<=sizeLine/\n=y.size
 | .ref p=>(∃ xs,SqL K H p xs/\n=xs.length)\/∃ xs,SqT K H p xs/\n=xs.length
 | _=>False
theorem CU:nJ X (.builtin "len") (fun xs H Q=>∃ x n,xs=[x]/\MW X.K x H n/\Q (.int n) H):=by
 intro pins s σ H xs us Q I r h
 obtain ⟨x,n,rfl,e,q⟩:=h
 obtain ⟨u,rfl,rx⟩:=CC r
 have hl:=pO
 have hs:sizeLine=16777216:=sizeLine_eq
 cases x with
 | str y=>
  obtain ⟨t,rfl⟩:=rx
  obtain ⟨hy,e'⟩:y.length<=sizeLine/\n=y.length:=e
  subst e'
  exact len_str (by omega) ⟨.int _,H,I.tok _,⟨_,rfl⟩,q⟩
 | byt y=>
  obtain ⟨t,rfl⟩:=rx
  obtain ⟨hy,e'⟩:y.size<=sizeLine/\n=y.size:=e
  subst e'
  exact W.len_bytes (by omega) ⟨.int _,H,I.tok _,⟨_,rfl⟩,q⟩
 | ref p=>
  cases rx
  have e':(∃ xs,SqL X.K H p xs/\n=xs.length)\/∃ xs,SqT X.K H p xs/\n=xs.length:=e
  rcases e' with ⟨xs,hx,e'⟩|⟨xs,hx,e'⟩
  ·subst e'
   obtain ⟨its,r',pl,hz⟩:=I.list hx
   have hlen:=r'.length
   exact Calls.call_len_list pl.isList (by simp only [List.size_toArray];omega) ⟨.int xs.length,H,I.tok _,⟨_,by simp only [List.size_toArray];rw [hlen]⟩,q⟩
  ·subst e'
   obtain ⟨its,r',pl,hz⟩:=I.tuple hx
   have hlen:=r'.length
   exact len_tuple pl (by simp only [List.size_toArray];omega) ⟨.int xs.length,H,I.tok _,⟨_,by simp only [List.size_toArray];rw [hlen]⟩,q⟩
 | _=>exact (show False from e).elim
end
structure ObjM (h:Heap) (x dx C:Addr) (mA:Str->Option Value):Prop where
 obj:h.get? x=some (W.instObj C dx)
 ns:h.Ns1 dx mA
 ne:dx≠x
noncomputable def LX (f:Str) (v:V):List (Str×V)->List (Str×V)
 | []=>[(f,v)]
 | (g,x)::r=>if g=f then (g,v)::r else (g,x)::LX f v r
theorem RelO.some_of {o:Option Value} (r:RelO (some v) o):∃ u,o=some u/\RelV v u:=by
 cases o with
 | none=>exact (show False from r).elim
 | some u=>exact ⟨u,rfl,r⟩
structure Cls (K:W.Frag) (C:Addr):Prop where
 pg:W.plainGet K C Str.empty=true
 hd:W.hasDictIn K C=true
 po:W.plainOver K C=true
 sa:W.findIn K (.ref C) "__setattr__"=some (some (.builtin "object.__setattr__"))
noncomputable def Hn (K:W.Frag) (C:Addr) (f:Str):Prop:=W.findIn K (.ref C) f=some none
structure Con (K:W.Frag) (C:Addr) (f:Str) (v:V) (u:Value):Prop where
 at_:W.findIn K (.ref C) f=some (some u)
 rel:RelV v u
 get:W.specialIn K u "__get__"=some none
 cp:W.copiedNames.contains f=false
structure Meth (K:W.Frag) (C:Addr) (m:Str) (f:Addr):Prop where
 at_:W.findIn K (.ref C) m=some (some (.ref f))
 fn:W.isFn K (.ref f)=true
 kp:W.keepIn K (.ref f)=true
section
variable {X:Cx} {pins:List (Addr×Obj)} {σ:St} {H:Hp} {s:Shared} {A:Around} {E:Value->Shared->Prop} {Q:Value->Shared->Prop} {c:Value} {b:Bool}
inductive TyOf (K:W.Frag) (H:Hp):V->Value->Prop where
 | non:TyOf K H .non (.type "NoneType")
 | bl (x:Bool):TyOf K H (.bl x) (.type "bool")
 | int (i:Int):TyOf K H (.int i) (.type "int")
 | str (x:Str):TyOf K H (.str x) (.type "str")
 | flt (x:UInt64):TyOf K H (.flt x) (.type "float")
 | lst {a:Addr} {xs:List V} (e:H a=some (.lst xs)):TyOf K H (.ref a) (.type "list")
 | frz {a:Addr} {o:Obj} {xs:List V} (e:H a=some (.frz o (.lst xs))):TyOf K H (.ref a) (.type "list")
 | tup {a:Addr} {xs:List V} (e:H a=some (.tup xs)):TyOf K H (.ref a) (.type "tuple")
 | dK {a:Addr} {kvs:List (Key×V)} (e:H a=some (.dK kvs)):TyOf K H (.ref a) (.type "dict")
 | dT {a:Addr} {kvs:List (List Key×V)} (e:H a=some (.dT kvs)):TyOf K H (.ref a) (.type "dict")
 | ins {a C dx:Addr} {fs:List (Str×V)} (e:H a=some (.ins C dx fs)) (cl:Cls K C) (ha:W.findIn K (.ref C) "__class__"=some (some (.builtin "object.__class__")))
   (hn:W.specialIn K (.builtin "object.__class__") "__get__"=some (some (.builtin "getset_descriptor.__get__"))) (htk:W.takesIn K (.builtin "object.__class__")=some true)
   (hm:W.mroIn K C (.type "object")=some true):TyOf K H (.ref a) (.ref C)
end
structure Room (k:Nat) (A:Around):Prop where
 hd:A.handled=none
 dp:A.depth+3 * k+5<recursionLimit
 un:A.units+16 * k+200<cLine
theorem Room.mono {A:Around} (r:Room k A) (h:j<=k):Room j A:=⟨r.hd,by have:=r.dp;omega,by have:=r.un;omega⟩
theorem Room.deeper {A:Around} (r:Room (k+1) A) (env:Env):Room k (A.deeper env):=
 ⟨r.hd,by have:=r.dp;show A.depth+1+3 * k+5<_;omega,by have:=r.un;show A.units+3+16 * k+200<_;omega⟩
theorem Room.in1 {A:Around} (r:Room (k+1) A):Room k A.in1:=
 ⟨r.hd,by have:=r.dp;show A.depth+3 * k+5<_;omega,by have:=r.un;show A.units+1+16 * k+200<_;omega⟩
theorem Room.depth {A:Around} (r:Room k A):A.depth<recursionLimit:=by have:=r.dp;omega
theorem Room.units {A:Around} (r:Room k A):A.units+64<cLine:=by have:=r.un;omega
def K7:TA:=fun _ H Q=>Q [] H
noncomputable def BJ (ta:TE) (tr:TA):TA:=fun σ H Q=>ta σ H fun x H1=>tr σ H1 fun xs H2=>Q (x::xs) H2
section
variable {X:Cx} {e:Expr} {es:List Expr} {te:TE} {t:TA} {pos:Pos}
theorem jG:PA X [] K7:=fun _ _ _ _ H Q I h=>Calls.spliced_nil ⟨[],H,I,.nil,h⟩
theorem dh (ha:PE X e te) (hr:PA X es t) (hs:starEach (e::es) X.env=(false,eval e X.env)::starEach es X.env:=by rfl):PA X (e::es) (BJ te t):=by
 intro pos pins s σ H Q I h
 rw [hs]
 show wpAny _ _ (spliced ((false,eval e X.env)::backTo pos (starEach es X.env))) _ _ s
 refine Calls.spliced_cons (thn (ha pins s σ H _ I h) fun u s1 ⟨x,H1,I1,r1,q1⟩=>?_)
 exact thn (hr pos pins s1 σ H1 _ I1 q1) fun us s2 ⟨xs,H2,I2,r2,q2⟩=>⟨x::xs,H2,I2,.cons r1 r2,q2⟩
noncomputable def MA (t:TA):TE:=fun σ H Q=>t σ H fun xs H1=>xs.length<=sizeLine/\∀ p,H1 p=none->Q (.ref p) (upd H1 p (.tup xs))
noncomputable def M4 (t:TA):TE:=fun σ H Q=>t σ H fun xs H1=>xs.length<=sizeLine/\∀ p,H1 p=none->Q (.ref p) (upd H1 p (.lst xs))
theorem Jm {x1} (h:PA X es t):PE X (.Tuple es x1 pos) (MA t):=by
 intro pins s σ H Q I hq
 refine wpAny_Tuple_spliced (thn (h pos pins s σ H _ I hq) fun us s1 ⟨xs,H1,I1,r,z,q⟩=>⟨by rw [<- r.length];exact z,?_⟩)
 have hf:H1 s1.heap.objs.size=none:=I1.hok.fresh (Nat.le_refl _)
 refine ⟨.ref s1.heap.objs.size,upd H1 s1.heap.objs.size (.tup xs),I1.laid (t':=s1.toks) (fun b u e=>Heap.get?_push_of_some _ e) (Nat.le_refl _) ?_,rfl,q _ hf⟩
 exact ⟨z,us,r,⟨_,Heap.get?_push_size _ rfl,rfl,_,rfl⟩⟩
theorem HB (h:PA X es t):PE X (.List es pos) (M4 t):=by
 intro pins s σ H Q I hq
 refine wpAny_List_spliced (thn (h pos pins s σ H _ I hq) fun us s1 ⟨xs,H1,I1,r,z,q⟩=>⟨by rw [<- r.length];exact z,?_⟩)
 have hf:H1 s1.heap.objs.size=none:=I1.hok.fresh (Nat.le_refl _)
 refine ⟨.ref s1.heap.objs.size,upd H1 s1.heap.objs.size (.lst xs),I1.laid (t':=s1.toks) (fun b u e=>Heap.get?_push_of_some _ e) (Nat.le_refl _) ?_,rfl,q _ hf⟩
 exact ⟨z,us,0,r,Heap.get?_push_size _ rfl⟩
end
abbrev Sp:=List V->Hp->VK->XK->Prop
abbrev CXT:=List Env->Hp->Shared->XK->Value->Shared->Prop
structure Env0 (P:Program) (w:World) (K:W.Frag) (mg:Str->Option Value) (base:Heap) (A:Around) (outer:List Env) (s:Shared) (H:Hp):Prop where
 frames:A.frames=some outer
 mod:Mod K mg base
 bs:∀ b o,base.get? b=some o->s.heap.get? b=some o/\H b=none
 bsz:base.objs.size<=s.heap.objs.size
 funs:s.heap.FunFrames base outer
 frf:∀ b∈frs outer,H b=none
 hok:HOk P w H s.heap
 bare:AllBare s.gens
 tabs:TabsIn base H
noncomputable def CE (outer:List Env) (P:Program) (w:World) (H:Hp) (s:Shared) (Q:VK) (u:Value) (s':Shared):Prop:=
 ∃ v H',s'.os=s.os/\AllBare s'.gens/\Un (frs outer) [] H H' s.heap s'.heap/\HOk P w H' s'.heap/\RelV v u/\Q v H'
noncomputable def CR (CX:CXT) (outer:List Env) (P:Program) (w:World) (H:Hp) (s:Shared) (Q:VK) (E:XK) (r:Result) (s':Shared):Prop:=
 match r with
 | .ok (.ret u)=>CE outer P w H s Q u s'
 | .ok _=>False
 | .error e=>CX outer H s E e s'
structure FnOk (P:Program) (w:World) (K:W.Frag) (mg:Str->Option Value) (base:Heap) (CX:CXT) (k:Nat) (f:Addr) (fd:FuncData) (ps:List Str) (sp:Sp):Prop where
 len:∀ vs H Q E,sp vs H Q E->vs.length=ps.length
 run:∀ (A:Around) (outer:List Env) (s:Shared) (H:Hp) (args:Args) (us:List Value) (vs:List V) (Q:VK) (E:XK),Room k A->Env0 P w K mg base A outer s H->BindsTo s fd args (ps.zip us)->Vals vs us->sp vs H Q E->
  codeAny (model P w) A (.call (.ref f) args) (CR CX outer P w H s Q E) s
theorem FnOk.imp {w:World} {K:W.Frag} {mg:Str->Option Value} {base:Heap} {CX:CXT} {sp sp':Sp} (F:FnOk P w K mg base CX k f fd ps sp)
 (h:∀ vs H Q E,sp' vs H Q E->sp vs H Q E):FnOk P w K mg base CX k f fd ps sp':=
 ⟨fun vs H Q E q=>F.len vs H Q E (h _ _ _ _ q),fun A outer s H args us vs Q E hr he hb hv hs=>F.run A outer s H args us vs Q E hr he hb hv (h _ _ _ _ hs)⟩
section
variable {X:Cx} {pins:List (Addr×Obj)} {σ:St} {H:Hp} {s s':Shared}
theorem Inv.env0 (I:Inv X pins σ H s):Env0 X.prog X.w X.K X.mg X.base X.A X.stack s H:=
 ⟨I.ok.frames,I.ok.mod,I.bs,Nat.le_trans I.ok.bsz I.sz,I.stack,I.stkFree,I.hok,I.bare,I.ok.tabs.un I.base⟩
theorem Inv.after {Q:VK} (I:Inv X pins σ H s) (h:CE X.stack X.prog X.w H s Q u s'):EP X pins σ Q u s':=by
 obtain ⟨v,H',os,bare,un,hok,r,q⟩:=h
 obtain ⟨hh,g,d,t,os'⟩:=s'
 obtain rfl:os'=s.os:=os
 exact ⟨v,H',I.call (h':=hh) (g':=g) (d':=d) (t':=t) (ch:=[]) un hok bare (fun b z=>absurd z (by simp)),r,q⟩
end
noncomputable def Binds (K:W.Frag) (fd:FuncData) (ps:List Str) (ds:List Value):Prop:=
 ∀ (s:Shared) (us:List Value),K.In s.heap->(us++ds).length=ps.length->BindsTo s fd ⟨us,[]⟩ (ps.zip (us++ds))
theorem Binds.all {K:W.Frag} (h:∀ us:List Value,us.length=ps.length->bindArgs fd ⟨us,[]⟩=pure (ps.zip us)):Binds K fd ps []:=fun s us _ hl=>by
 rw [List.append_nil] at hl ⊢
 exact .of_eq (h us hl)
section
variable {X:Cx} {CX:CXT} {k:Nat} {f C:Addr} {fd:FuncData} {ps:List Str} {sp:Sp} {dvs:List V} {ds:List Value} {E:XK} {x m:Str} {p pos apos:Pos} {e o:Expr} {es:List Expr} {ta:TE} {t:TA}
structure Mk (K:W.Frag) (C f:Addr):Prop where
 makes:W.makesIn K C=true
 init:W.findIn K (.ref C) "__init__"=some (some (.ref f))
 fn:W.isFn K (.ref f)=true
 kp:W.keepIn K (.ref C)=true
end
section
variable {X:Cx} {CX:CXT} {k:Nat} {f C:Addr} {fd:FuncData} {ps ks:List Str} {sp:Sp} {E:XK} {x m:Str} {p pos apos kpos:Pos} {e o:Expr} {es:List Expr} {kws:List Keyword} {te ta:TE} {t tk:TA} {nm:Option Str}
structure KBinds (K:W.Frag) (fd:FuncData) (ps ks:List Str) (g:List Value->List Value->List Value) (gV:List V->List V->List V):Prop where
 to:∀ (s:Shared) (us ws:List Value),K.In s.heap->(g us ws).length=ps.length->BindsTo s fd ⟨us,ks.zip ws⟩ (ps.zip (g us ws))
 rel:∀ {vs:List V} {us:List Value} {zs:List V} {ws:List Value},Vals vs us->Vals zs ws->Vals (gV vs zs) (g us ws)
variable {g:List Value->List Value->List Value} {gV:List V->List V->List V}
end
structure FnScope (N P:List Str) (sc:Scope):Prop where
 kind:sc.kind=.function
 co:sc.isCoroutine=false
 gen:sc.isGenerator=false
 nd:N.Nodup
 pre:N.take P.length=P
 par:∀ x∈P,sc.names.lookup x=some .local\/sc.names.lookup x=some .cell
 nofree:∀ y∈sc.names,y.2 ≠ .free
theorem rP {kindOf:Str->Option NameKind} {x:Str}:∀ {binds:List (Str×Value)} {m:Str->Option Value},(∀ v,(x,v) ∉ binds)->bindL kindOf binds m x=m x
 | [],_,_=>rfl
 | (n,v)::r,m,h=>by
  unfold bindL
  rw [rP fun w hw=>h w (List.mem_cons_of_mem _ hw)]
  split
  ·have:x≠n:=by rintro rfl;exact h v List.mem_cons_self
   simp [this]
  ·rfl
theorem tQ {kindOf:Str->Option NameKind} {x:Str}:∀ {binds:List (Str×Value)} {m:Str->Option Value},(∀ v,(x,v) ∉ binds)->bindC kindOf binds m x=m x
 | [],_,_=>rfl
 | (n,v)::r,m,h=>by
  unfold bindC
  rw [tQ fun w hw=>h w (List.mem_cons_of_mem _ hw)]
  split
  ·rfl
  ·have:x≠n:=by rintro rfl;exact h v List.mem_cons_self
   simp [this]
theorem td {kindOf:Str->Option NameKind} {x:Str} {v:Value}:∀ {P:List Str} {vs:List Value} {i:Nat} {m:Str->Option Value},P.Nodup->P[i]?=some x->vs[i]?=some v->kindOf x=some .local->
  bindL kindOf (P.zip vs) m x=some v
 | [],_,_,_,_,h,_,_=>by simp at h
 | _::_,[],_,_,_,_,h,_=>by simp at h
 | p::P,w::vs,0,m,nd,h1,h2,hk=>by
  simp at h1 h2;subst h1;subst h2
  show bindL kindOf ((p,w)::P.zip vs) m p=_
  unfold bindL
  rw [rP fun v hv=>(List.nodup_cons.mp nd).1 (List.of_mem_zip hv).1,if_pos hk]
  simp
 | p::P,w::vs,i+1,m,nd,h1,h2,hk=>by
  show bindL kindOf ((p,w)::P.zip vs) m x=_
  unfold bindL
  exact td (i:=i) (List.nodup_cons.mp nd).2 (by simpa using h1) (by simpa using h2) hk
theorem sA {kindOf:Str->Option NameKind} {x:Str} {v:Value}:∀ {P:List Str} {vs:List Value} {i:Nat} {m:Str->Option Value},P.Nodup->P[i]?=some x->vs[i]?=some v->kindOf x≠some .local->
  bindC kindOf (P.zip vs) m x=some v
 | [],_,_,_,_,h,_,_=>by simp at h
 | _::_,[],_,_,_,_,h,_=>by simp at h
 | p::P,w::vs,0,m,nd,h1,h2,hk=>by
  simp at h1 h2;subst h1;subst h2
  show bindC kindOf ((p,w)::P.zip vs) m p=_
  unfold bindC
  rw [tQ fun v hv=>(List.nodup_cons.mp nd).1 (List.of_mem_zip hv).1,if_neg hk]
  simp
 | p::P,w::vs,i+1,m,nd,h1,h2,hk=>by
  show bindC kindOf ((p,w)::P.zip vs) m x=_
  unfold bindC
  exact sA (i:=i) (List.nodup_cons.mp nd).2 (by simpa using h1) (by simpa using h2) hk
noncomputable def jf (N:List Str) (vs:List V):St:=vs.map some++List.replicate (N.length - vs.length) none
noncomputable def lC (CX:CXT) (P:Program) (w:World) (K:W.Frag) (mg:Str->Option Value) (base:Heap) (N:List Str) (qual:Str) (scope:Scope) (f:Addr) (cd:Value) (A:Around) (outer:List Env) (s:Shared) (H:Hp) (E:XK):Cx where
 prog:=P
 w:=w
 K:=K
 mg:=mg
 base:=base
 A:=A.deeper (envOfC qual scope s.heap.objs.size f cd)
 N:=N
 s₀:=s
 H₀:=H
 env:=envOfC qual scope s.heap.objs.size f cd
 outer:=outer
 stack:=envOfC qual scope s.heap.objs.size f cd::outer
 ex:=[]
 calm:=true
 fn:=fun _=>true
 pn:=[]
 xe:=fun e s'=>wpAny (model P w) (A.deeper (envOfC qual scope s.heap.objs.size f cd)) (leaving (envOfC qual scope s.heap.objs.size f cd) e) (fun _ s''=>CX outer H s E e s'') (fun e' s''=>CX outer H s E e' s'') s'
theorem wA {sc:Scope} {n:Nat} (h:sc.names.lookup x=some .cell):∃ c,(cellsFrom n sc.names []).lookup x=some c:=by
 have q:=W.cellsFrom_some sc.names n [] (.inl h)
 exact Option.isSome_iff_exists.mp q
theorem zQ {CX:CXT} {w:World} {K:W.Frag} {mg:Str->Option Value} {base:Heap} {N:List Str} {cd:Value} {A:Around} {outer:List Env} {s1:Shared} {E:XK}
 (S:FnScope N ps scope) (hd:A.handled=none) (e0:Env0 P w K mg base A outer s H) (hl:vs.length=ps.length) (r:Vals vs us)
 (x:InCallC s s.heap.objs.size (bindL (envOfC qual scope s.heap.objs.size f cd).kindOf (ps.zip us) fun _=>none) (cellsFrom (s.heap.objs.size+1) scope.names []) (bindC (envOfC qual scope s.heap.objs.size f cd).kindOf (ps.zip us) fun _=>none) s1) :
  Inv (lC CX P w K mg base N qual scope f cd A outer s H E) [] (jf N vs) H s1:=by
 have hpl:ps.length<=N.length:=by have:=congrArg List.length S.pre;rw [List.length_take] at this;omega
 obtain ⟨h1,tk,rfl,hk⟩:=x.done
 have noA:∀ b:Addr,b ∉ (lC CX P w K mg base N qual scope f cd A outer s H E).ex:=fun b z=>absurd (show b∈([]:List Addr) from z) (by simp)
 refine ⟨⟨e0.mod,S.kind,rfl,rfl,Nat.le_refl _,fun y z c h1 h2=>?_,fun y hy=>?_,fun y c _ h=>?_,fun _=>hd,Around.frames_deeper e0.frames,.inr ⟨rfl,rfl⟩,fun b z=>absurd z (noA b),e0.bs,e0.bsz,fun b _ _=>noA b,fun b z=>absurd z (noA b),e0.funs,e0.frf,e0.tabs⟩,
  rfl,e0.bare,Un.kept hk,⟨_,x.toInCall.ns,fun i y v h1 h2 h3=>?_⟩,fun y c h=>⟨_,x.cell y c h⟩,e0.hok.fresh (Nat.le_refl _),fun y c h=>?_,fun p hp=>absurd (show p∈([]:List (Addr×Obj)) from hp) (by simp),e0.hok.kept hk,?_⟩
 ·exact name_of_addr x.apart (PySem.mem_of_lookup h1) (PySem.mem_of_lookup h2)
 ·have hy:scope.names.lookup y=some .cell\/scope.names.lookup y=some .free:=hy
  rcases hy with hy|hy
  ·exact wA hy
  ·exact absurd rfl (S.nofree _ (PySem.mem_of_lookup hy))
 ·exact Nat.le_of_lt (x.above y c (PySem.mem_of_lookup h))
 ·have hi:i<vs.length:=by
   unfold jf at h2
   by_cases hi:i<vs.length
   ·exact hi
   ·rw [List.getElem?_append_right (by simpa using hi)] at h2
    rw [List.getElem?_replicate] at h2
    split at h2 <;> cases h2
  have ha:vs[i]?=some v:=by
   unfold jf at h2
   rw [List.getElem?_append_left (by simpa using hi),List.getElem?_map] at h2
   cases e:vs[i]? with
   | none=>rw [e] at h2;cases h2
   | some a=>rw [e] at h2;cases h2;rfl
  obtain ⟨u,hu,rv⟩:=r.get ha
  have hp:ps[i]?=some y:=by
   rw [<- S.pre,List.getElem?_take_of_lt (by omega)];exact h1
  have ndP:ps.Nodup:=by rw [<- S.pre];exact S.nd.sublist (List.take_sublist _ _)
  refine ⟨u,rv,?_⟩
  rcases S.par y (List.mem_of_getElem? hp) with k|k
  ·exact .inl ⟨k,td ndP hp hu k⟩
  ·obtain ⟨c,e⟩:=wA (n:=s.heap.objs.size+1) k
   refine .inr ⟨.inl k,c,e,?_⟩
   have q:=x.cell y c e
   rw [sA ndP hp hu (by show scope.names.lookup y≠_;rw [k];decide)] at q
   exact q
 ·exact e0.hok.fresh (Nat.le_of_lt (x.above y c (PySem.mem_of_lookup h)))
 ·unfold jf
  show _=N.length
  rw [List.length_append,List.length_map,List.length_replicate]
  omega
theorem Gy {CX:CXT} {w:World} {K:W.Frag} {mg:Str->Option Value} {base:Heap} {params:Arguments} {body:List Stmt} {dV kV doc pm ct oc:Value} {an:Option Addr}
 {N:List Str} {sp:Sp} (lk:K.lookup f=some ⟨oc,od,.func (W.fnOf name qual params body scope dV kV doc pm an cdv ct),osl⟩) (hcd:W.codeIn K cdv qual=true) (S:FnScope N ps scope)
 (len:∀ vs H Q E,sp vs H Q E->vs.length=ps.length)
 (hbody:∀ (A:Around) (outer:List Env) (s:Shared) (H:Hp) (vs:List V) (Q:VK) (E:XK),Room k (A.deeper (envOfC qual scope s.heap.objs.size f cdv))->sp vs H Q E->
 ∃ t,PSs (lC CX P w K mg base N qual scope f cdv A outer s H E) body t/\t { nx:=fun _ H'=>Q .non H',rt:=Q } (jf N vs) H) :
  FnOk P w K mg base CX (k+1) f (W.fnOf name qual params body scope dV kV doc pm an cdv ct) ps sp:=by
 refine ⟨len,fun A outer s H args us vs Q E hr e0 hb r hsp=>?_⟩
 have hl:=len _ _ _ _ hsp
 have KX:K.In s.heap:=e0.mod.kin.keeps fun b o e=>(e0.bs b o e).1
 have lim:s.heap.NoLimit:=e0.mod.nolimit.keeps fun b o e=>(e0.bs b o e).1
 have hkind:∀ y∈ps.zip us,scope.names.lookup y.1=some .local\/(scope.names.lookup y.1=some .cell/\((cellsFrom (s.heap.objs.size+1) scope.names []).lookup y.1).isSome=true):=fun ⟨n,v⟩ hy=>by
  rcases S.par n (List.of_mem_zip hy).1 with q|q
  ·exact .inl q
  ·exact .inr ⟨q,W.cellsFrom_some _ _ _ (.inl q)⟩
 refine codeAny_call_function hr.depth (KX _ _ lk) rfl S.co S.gen rfl (W.codeRec_of KX hcd) (hb _ _ _ _ ?_)
 refine wpAny_newFunctionEnv_cells S.kind hkind fun env he s1 x=>?_
 subst he
 refine ⟨lim.keeps x.toInCall.keep,codeAny_func ?_⟩
 obtain ⟨t,ht,hq⟩:=hbody A outer s H vs Q E (hr.deeper _) hsp
 have I:Inv (lC CX P w K mg base N qual scope f cdv A outer s H E) [] (jf N vs) H s1:=zQ S hr.hd e0 hl r x
 refine wpAny_mono (ht [] s1 (jf N vs) H _ I hq) (fun fl s' hs=>?_) fun e s' hs=>hs
 have fin:∀ {σ':St} {H':Hp} {v:V} {u:Value},Inv (lC CX P w K mg base N qual scope f cdv A outer s H E) [] σ' H' s'->RelV v u->Q v H'->CE outer P w H s Q u s':=
  fun {σ' H' v u} J rv q=>⟨v,H',J.os,J.bare,J.base,J.hok,rv,q⟩
 cases fl with
 | ret u=>
  obtain ⟨v,σ',H',J,rv,q⟩:=hs
  exact fin J rv q
 | next=>
  obtain ⟨σ',H',J,q⟩:=hs
  exact fin (v:=V.non) (u:=Value.none) J rfl q
 | brk=>
  obtain ⟨_,_,_,q⟩:=hs
  exact False.elim q
 | cont=>
  obtain ⟨_,_,_,q⟩:=hs
  exact False.elim q
end L2
variable {CX:L2.CXT}
namespace L2
open PySem PySem.Spec PyProof.Rows
section
variable {X:Cx} {x:Str} {p pos:Pos} {e:Expr} {es:List Expr} {t:TA} {id T:String} {r:List V->Hp->VK->Prop}
noncomputable def tCB (r:List V->Hp->VK->Prop) (t:TA):TE:=fun σ H Q=>t σ H fun vs H1=>r vs H1 Q
theorem wB (hc:nJ X (.builtin id) r) (hg:Gl X x) (hm:X.mg x=none) (hv:bootBuiltins x=some (.builtin id)) (ha:PA X (e::es) t) (hn:x ≠ "__name__":=by decide) (hdb:(x==("__debug__":Str))=false:=by decide)
 (he:starEach (e::es) X.env=(false,eval e X.env)::starEach es X.env:=by rfl) (hpl:(backTo pos (starEach es X.env)).any (·.1)=false:=by rfl):PE X (.Call (.Name x p) (e::es) [] pos) (tCB r t):=by
 intro pins s σ H Q I h
 refine wpAny_Call_Name_kw (lg I hg hm hv ?_ hn hdb)
 exact callWith_builtin1 (thn (ha pos pins s σ H _ I h) fun us s1 ⟨vs,H1,I1,r1,q1⟩=>hc pins s1 σ H1 vs us Q I1 r1 q1) he hpl
theorem nz (hc:nJ X (.type T) r) (hg:Gl X x) (hm:X.mg x=none) (hv:bootBuiltins x=some (.type T)) (ha:PA X (e::es) t) (hn:x ≠ "__name__":=by decide) (hdb:(x==("__debug__":Str))=false:=by decide)
 (he:starEach (e::es) X.env=(false,eval e X.env)::starEach es X.env:=by rfl) (hpl:(backTo pos (starEach es X.env)).any (·.1)=false:=by rfl):PE X (.Call (.Name x p) (e::es) [] pos) (tCB r t):=by
 intro pins s σ H Q I h
 refine wpAny_Call_Name_kw (lg I hg hm hv ?_ hn hdb)
 exact callWith_type1 (thn (ha pos pins s σ H _ I h) fun us s1 ⟨vs,H1,I1,r1,q1⟩=>hc pins s1 σ H1 vs us Q I1 r1 q1) he hpl
end
end L2
namespace HT
open PySem PyProof.Rows
section
open PySem.SeqAt
open PySem.AutoSeq1 (wpAny_loadPart')
open PySem.MeetsSeq PySem.MeetsSeq2 PySem.MeetsSeq3
end
section
variable {prog:Program} {w:World} {A:Around} {E:Value->Shared->Prop} {s:Shared}
theorem cat_tup {t:Addr} {vs ws:List Value} {Q:Value->Shared->Prop} (ht:IsTup s.heap t vs.toArray) (hb:IsTup s.heap b ws.toArray) (hv:vs≠[])
 (h1:ws=[]->Q (.ref t) s) (h2:ws≠[]->Q (.ref s.heap.objs.size) { s with heap:=s.heap.push { cls:=.type "tuple",data:=.seq (vs++ws).toArray } })
 (hsz:vs.length+ws.length<=sizeLine):wpAny (model prog w) A (binaryOp .Add (.ref t) (.ref b)) Q E s:=by
 obtain ⟨⟨cls,dd,data,sl⟩,ho,hc,n,hd⟩:=id ht
 obtain ⟨⟨cls2,dd2,data2,sl2⟩,ho2,hc2,n2,hd2⟩:=id hb
 simp only at hc hd hc2 hd2
 subst hc hd hc2 hd2
 have e:vs.toArray++ws.toArray=(vs++ws).toArray:=by simp
 by_cases hw:ws=[]
 ·exact concat_meets ⟨_,ho,rfl⟩ ⟨_,ho2,rfl⟩ noFill_tuple_add seq_tuple_add F.slot_tuple_add F.entry_tuple_add (F.args_tuple_add_2 _ _)
   (tuple_addW1 t b vs.toArray ws.toArray n n2 dd dd2 sl sl2 (by simpa using hv) (by simp [hw])) ⟨ho,ho2,h1 hw⟩
 ·refine concat_meets ⟨_,ho,rfl⟩ ⟨_,ho2,rfl⟩ noFill_tuple_add seq_tuple_add F.slot_tuple_add F.entry_tuple_add (F.args_tuple_add_2 _ _)
   (tuple_addW2 t b vs.toArray ws.toArray n n2 dd dd2 sl sl2 (by simpa using hv) (by simpa using hw) (by rw [List.size_toArray,List.size_toArray];exact hsz)) ⟨ho,ho2,?_⟩
  rw [e]
  exact h2 hw
noncomputable def sIx (n d:Nat):Option Int->Nat
 | none=>d
 | some v=>if v<0 then (v+(n:Int)).toNat else min v.toNat n
theorem sIx_none (n d:Nat):sIx n d none=d:=rfl
theorem sIx_nat (n d k:Nat):sIx n d (some (k:Int))=min k n:=by
 show (if (k:Int)<0 then ((k:Int)+(n:Int)).toNat else min (k:Int).toNat n)=min k n
 rw [if_neg (by omega),Int.toNat_natCast]
theorem sIx_le (n d:Nat) (hd:d<=n) (o:Option Int):sIx n d o<=n:=by
 cases o with
 | none=>exact hd
 | some v=>
  show (if v<0 then (v+(n:Int)).toNat else min v.toNat n)<=n
  by_cases hv:v<0
  ·rw [if_pos hv];omega
  ·rw [if_neg hv];exact Nat.min_le_right _ _
theorem zM (v:Int) (n d:Nat):(if v<0 then max (v+(n:Int)) 0 else min v (n:Int))=((sIx n d (some v):Nat):Int):=by
 show (if v<0 then max (v+(n:Int)) 0 else min v (n:Int))=(((if v<0 then (v+(n:Int)).toNat else min v.toNat n):Nat):Int)
 by_cases hv:v<0
 ·simp only [if_pos hv];omega
 ·simp only [if_neg hv];omega
theorem yF (lo hi:Option Int) (n:Nat):Builtin.Slice.sliceAdjust lo hi 1 (n:Int)=(((sIx n 0 lo:Nat):Int),((sIx n n hi:Nat):Int)):=by
 have h1 : ¬ ((1:Int)<0):=by omega
 unfold Builtin.Slice.sliceAdjust
 simp only [h1,if_false]
 refine Prod.ext ?_ ?_
 ·cases lo with
  | none=>rfl
  | some v=>exact zM v n 0
 ·cases hi with
  | none=>rfl
  | some v=>exact zM v n n
theorem yC (i j:Nat):Builtin.Slice.slicePlaces (i:Int) (j:Int) 1=j - i:=by
 unfold Builtin.Slice.slicePlaces
 have h1:(1:Int) > 0:=by omega
 simp only [h1,if_true,Int.ediv_one]
 split <;> omega
theorem pE {v:Value} {o:Option Int} {Q:Option Int->Shared->Prop} (p:IsPart v o) (h:Q o s):wpAny (model prog w) A (Builtin.Slice.slicePartIndex v) Q E s:=by
 cases p with
 | none=>exact slicePart_none h
 | int i t=>exact slicePart_int h
theorem sliceApplied_gen {sl:Addr} {vl vu:Value} {lo hi:Option Int} {n:Nat} {Q:Int×Int×Nat->Shared->Prop} (hs:s.heap.IsSliceOf sl vl vu .none) (pl:IsPart vl lo) (pu:IsPart vu hi)
 (h:Q (((sIx n 0 lo:Nat):Int),1,sIx n n hi - sIx n 0 lo) s):wpAny (model prog w) A (Builtin.Slice.sliceApplied (.ref sl) (pure (n:Int))) Q E s:=by
 obtain ⟨os,hos,hcs,hds⟩:=id hs
 unfold Builtin.Slice.sliceApplied Builtin.Slice.sliceFields
 refine wpAny_bind (wpAny_bind (wpAny_field hos hds (x:=vl) rfl (wpAny_bind (wpAny_field hos hds (x:=vu) rfl (wpAny_bind (wpAny_field hos hds (x:=.none) rfl (wpAny_pure ?_)))))))
 refine wpAny_bind (slicePart_none ?_)
 show wpAny _ _ (if ((1:Int)==0)=true then _ else _) _ _ s
 rw [if_neg (by decide)]
 refine wpAny_bind (pE pl (wpAny_bind (pE pu (wpAny_bind (wpAny_pure ?_)))))
 show wpAny _ _ (match Builtin.Slice.sliceAdjust lo hi 1 (n:Int) with|(lo,hi)=>pure (lo,(1:Int),Builtin.Slice.slicePlaces lo hi 1)) _ _ s
 rw [yF lo hi n]
 show wpAny _ _ (pure (((sIx n 0 lo:Nat):Int),(1:Int),Builtin.Slice.slicePlaces ((sIx n 0 lo:Nat):Int) ((sIx n n hi:Nat):Int) 1)) _ _ s
 rw [yC]
 exact wpAny_pure h
theorem CY (xs:Array Value) (i k:Nat):((List.range k).filterMap fun (m:Nat)=>xs[((i:Int)+(m:Int) * 1).toNat]?).toArray=((xs.toList.drop i).take k).toArray:=by
 have e:(fun (m:Nat)=>xs[((i:Int)+(m:Int) * 1).toNat]?)=fun m=>xs[i+m]?:=by
  funext m
  have:((i:Int)+(m:Int) * 1).toNat=i+m:=by omega
  rw [this]
 rw [e]
 have:=pick_run xs i k
 rw [List.filterMap_map] at this
 have e2:((fun x=>xs[x]?) ∘ fun x=>i+x)=fun m=>xs[i+m]?:=rfl
 rw [e2] at this
 rw [this]
theorem getItem_tuple_cut {t sl:Addr} {items:Array Value} {vl vu:Value} {lo hi:Option Int} {Q:Value->Shared->Prop} (ht:IsTup s.heap t items) (hs:s.heap.IsSliceOf sl vl vu .none) (pl:IsPart vl lo) (pu:IsPart vu hi)
 (hw : ¬ (sIx items.size 0 lo=0/\sIx items.size items.size hi=items.size))
 (h:Q (.ref s.heap.objs.size) { s with heap:=s.heap.push { cls:=.type "tuple",data:=.seq ((items.toList.drop (sIx items.size 0 lo)).take (sIx items.size items.size hi - sIx items.size 0 lo)).toArray } })
 (hsz:items.size<=sizeLine):wpAny (model prog w) A (getItem (.ref t) (.ref sl)) Q E s:=by
 have htake:sizeOk (.seq ((items.toList.drop (sIx items.size 0 lo)).take (sIx items.size items.size hi - sIx items.size 0 lo)).toArray):=by
  show ((items.toList.drop (sIx items.size 0 lo)).take (sIx items.size items.size hi - sIx items.size 0 lo)).toArray.size<=sizeLine
  rw [List.size_toArray,List.length_take,List.length_drop,Array.length_toList]
  omega
 have hj:sIx items.size items.size hi<=items.size:=sIx_le _ _ (Nat.le_refl _) hi
 obtain ⟨os,hos,hcs,hds⟩:=id hs
 have hTs:s.TypeIs (.ref sl) "slice":=⟨os,hos,hcs⟩
 unfold getItem
 try with_reducible refine wpAny_holding ?_
 first|refine wpAny_bind (wpAny_pure ?_)|skip
 refine wpAny_bind (wpAny_sequenceKey ht.typeIs (by decide) ?_)
 refine wpAny_bind (wpAny_callSpecial?_slot (name:=Str.ofString "__getitem__") ht.typeIs slot_tuple_getitem
  (wpAny_call_entry slot_tuple_getitem ht.typeIs entry_tuple_getitem ?_ (args_tuple_getitem _ _)))
 show wpAny _ _ (Builtin.Tuple.tupleItemsOf (.ref t)>>=_) _ _ s
 refine wpAny_bind (tupleItemsOf_ ht ?_)
 refine wpAny_bind (wpAny_typeOf hTs ?_)
 rw [if_pos (by decide)]
 refine wpAny_bind (sliceApplied_gen hs pl pu ?_)
 have hno : ¬ ((((sIx items.size 0 lo:Nat):Int)==0 && (1:Int)==1 && (sIx items.size items.size hi - sIx items.size 0 lo)==items.size)=true):=by
  intro q
  rw [Bool.and_eq_true,Bool.and_eq_true] at q
  have q1:((sIx items.size 0 lo:Nat):Int)=0:=eq_of_beq q.1.1
  have q2:sIx items.size items.size hi - sIx items.size 0 lo=items.size:=eq_of_beq q.2
  exact hw ⟨by omega,by omega⟩
 show wpAny _ _ (if (((sIx items.size 0 lo:Nat):Int)==0 && (1:Int)==1 && (sIx items.size items.size hi - sIx items.size 0 lo)==items.size)=true then _ else _) _ _ s
 rw [if_neg hno,CY]
 first
  | exact wpAny_bind (m:=Builtin.Tuple.tupleExact _) (wpAny_newObj_type (wpAny_pure ⟨_,rfl,wpAny_pure h⟩) htake)
  | exact wpAny_bind (m:=Builtin.Tuple.tupleExact _) (wpAny_newObj_type (wpAny_bind (wpAny_pure (wpAny_pure ⟨_,rfl,wpAny_pure h⟩))) htake)
  | exact wpAny_bind (wpAny_bind (m:=Builtin.Tuple.tupleExact _) (wpAny_newObj_type (wpAny_pure (wpAny_pure ⟨_,rfl,wpAny_pure h⟩)) htake))
  | exact wpAny_bind (wpAny_bind (m:=Builtin.Tuple.tupleExact _) (wpAny_newObj_type (wpAny_pure ⟨_,rfl,wpAny_pure h⟩) htake))
end
end HT
namespace L2
open PySem PySem.Spec PyProof.Rows
abbrev TO:=St->Hp->(Option Int->Hp->Prop)->Prop
noncomputable def PO (X:Cx) (e:Option Expr) (t:TO):Prop:=
 ∀ (pins:List (Addr×Obj)) (s:Shared) (σ:St) (H:Hp) (Q:Option Int->Hp->Prop),Inv X pins σ H s->t σ H Q->
  wpAny (model X.prog X.w) X.A (evalPart e X.env) (fun u s'=>∃ o H',Inv X pins σ H' s'/\IsPart u o/\Q o H') X.xe s
def FG:TO:=fun _ H Q=>Q none H
noncomputable def Lh (t:TE):TO:=fun σ H Q=>t σ H fun x H1=>∃ i,x=.int i/\Q (some i) H1
section
variable {X:Cx} {e:Expr} {te:TE} {lo hi:Option Expr} {tl th:TO} {pos p2:Pos}
theorem Gq:PO X none FG:=by
 intro pins s σ H Q I h
 rw [evalPart_none]
 exact wpAny_pure ⟨none,H,I,.none,h⟩
theorem Fz (h:PE X e te):PO X (some e) (Lh te):=by
 intro pins s σ H Q I hw
 rw [evalPart_some]
 refine thn (h pins s σ H _ I hw) fun u s1 ⟨x,H1,I1,r1,q1⟩=>?_
 obtain ⟨i,rfl,q⟩:=q1
 obtain ⟨t,rfl⟩:=r1
 exact ⟨some i,H1,I1,.int i t,q⟩
noncomputable def SlR (X:Cx) (r:V->Option Int->Option Int->Hp->VK->Prop):Prop:=
 ∀ (pins:List (Addr×Obj)) (s:Shared) (σ:St) (H:Hp) (x:V) (v vl vu:Value) (lo hi:Option Int) (sl:Addr) (Q:VK),Inv X pins σ H s->RelV x v->s.heap.IsSliceOf sl vl vu .none->IsPart vl lo->IsPart vu hi->r x lo hi H Q->
  ∃ T id,typeLookup (.type T) "__getitem__"=pure (some (.builtin id))/\s.TypeIs v T/\wpAny (model X.prog X.w) X.A (getItem v (.ref sl)) (EP X pins σ Q) X.xe s
theorem SlR.or {r r':V->Option Int->Option Int->Hp->VK->Prop} (h:SlR X r) (h':SlR X r'):SlR X (fun x lo hi H Q=>r x lo hi H Q\/r' x lo hi H Q):=by
 intro pins s σ H x v vl vu lo hi sl Q I rx hs pl pu q
 rcases q with q|q
 ·exact h pins s σ H x v vl vu lo hi sl Q I rx hs pl pu q
 ·exact h' pins s σ H x v vl vu lo hi sl Q I rx hs pl pu q
noncomputable def tSl (r:V->Option Int->Option Int->Hp->VK->Prop) (te:TE) (tl th:TO):TE:=fun σ H Q=>te σ H fun x H1=>tl σ H1 fun l H2=>th σ H2 fun u H3=>r x l u H3 Q
theorem BW {r:V->Option Int->Option Int->Hp->VK->Prop} (hr:SlR X r) (he:PE X e te) (hl:PO X lo tl) (hu:PO X hi th):PE X (.Subscript e (.Slice lo hi none p2) pos) (tSl r te tl th):=by
 intro pins s σ H Q I h
 refine Subscript_ (thn (he pins s σ H _ I h) fun v s1 ⟨x,H1,I1,r1,q1⟩=>?_)
 refine wpAny_Slice (thn (hl pins s1 σ H1 _ I1 q1) fun vl s2 ⟨l,H2,I2,pl,q2⟩=>thn (hu pins s2 σ H2 _ I2 q2) fun vu s3 ⟨u,H3,I3,pu,q3⟩=>?_)
 rw [evalPart_none]
 refine wpAny_pure ?_
 have I4:Inv X pins σ H3 { s3 with heap:=s3.heap.push { cls:=.type "slice",data:=.fields #[vl,vu,.none] } }:=I3.kept (t':=s3.toks) fun b ob q=>Heap.get?_push_of_some _ q
 obtain ⟨T,id,hT,ht,hg⟩:=hr pins { s3 with heap:=s3.heap.push { cls:=.type "slice",data:=.fields #[vl,vu,.none] } } σ H3 x v vl vu l u s3.heap.objs.size Q I4 r1 (Heap.IsSliceOf.new ..) pl pu q3
 show wpAny (model X.prog X.w) X.A (subscriptTail e (.Slice lo hi none p2) v (.ref s3.heap.objs.size)) (EP X pins σ Q) X.xe { s3 with heap:=s3.heap.push { cls:=.type "slice",data:=.fields #[vl,vu,.none] } }
 exact tail_any (ops:=[.ref s3.heap.objs.size,v]) ht hT hg (by with_unfolding_all rfl)
noncomputable def D9 (xs:List V) (lo hi:Option Int):List V:=(xs.drop (HT.sIx xs.length 0 lo)).take (HT.sIx xs.length xs.length hi - HT.sIx xs.length 0 lo)
theorem nT (xs:List V) (lo hi:Option Int):(D9 xs lo hi).length<=xs.length:=by
 unfold D9
 rw [List.length_take,List.length_drop]
 omega
noncomputable def L3 (K:W.Frag):V->Option Int->Option Int->Hp->VK->Prop:=fun x lo hi H Q=>∃ a xs,x=.ref a/\SqT K H a xs/\
 ¬ (HT.sIx xs.length 0 lo=0/\HT.sIx xs.length xs.length hi=xs.length)/\∀ p,H p=none->Q (.ref p) (upd H p (.tup (D9 xs lo hi)))
theorem sl_tup:SlR X (L3 X.K):=by
 intro pins s σ H x v vl vu lo hi sl Q I rx hs pl pu h
 obtain ⟨a,xs,rfl,hx,hw,q⟩:=h
 cases rx
 obtain ⟨its,r,ht,hz⟩:=I.tuple hx
 have hlen:its.toArray.size=xs.length:=by rw [List.size_toArray];exact r.length.symm
 refine ⟨"tuple",_,slot_tuple_getitem.lookup,ht.typeIs,?_⟩
 refine HT.getItem_tuple_cut ht hs pl pu (by rw [hlen];exact hw) ?_ (by rw [hlen];exact hz)
 rw [hlen]
 refine ⟨.ref s.heap.objs.size,_,I.laid (t':=s.toks) (o:=.tup (D9 xs lo hi)) (fun b ob q=>Heap.get?_push_of_some _ q) (Nat.le_refl _) ?_,rfl,q _ (I.hok.fresh (Nat.le_refl _))⟩
 exact ⟨Nat.le_trans (nT xs lo hi) hz,_,(r.drop (HT.sIx xs.length 0 lo)).take (HT.sIx xs.length xs.length hi - HT.sIx xs.length 0 lo),IsTup.new _ _⟩
noncomputable def Ls (K:W.Frag):R2:=fun x y H Q=>∃ a b xs ys,x=.ref a/\y=.ref b/\SqT K H a xs/\SqT K H b ys/\xs≠[]/\xs.length+ys.length<=sizeLine/\
 (ys=[]->Q (.ref a) H)/\(ys≠[]->∀ p,H p=none->Q (.ref p) (upd H p (.tup (xs++ys))))
theorem Vals.nil_iff (r:Vals xs us):us=[] ↔ xs=[]:=by
 cases r with
 | nil=>simp
 | cons _ _=>simp
theorem E9:OpR X (binaryOp .Add) (Ls X.K):=by
 intro pins s σ H x y v u Q I rx ry h
 obtain ⟨a,b,xs,ys,rfl,rfl,ha,hb,hx,hz,q1,q2⟩:=h
 cases rx
 cases ry
 obtain ⟨its,r1,p1,_⟩:=I.tuple ha
 obtain ⟨its2,r2,p2,_⟩:=I.tuple hb
 refine HT.cat_tup p1 p2 (fun z=>hx (r1.nil_iff.mp z)) (fun z=>⟨.ref a,H,I,rfl,q1 (r2.nil_iff.mp z)⟩) (fun z=>?_) (by rw [<- r1.length,<- r2.length];exact hz)
 refine ⟨.ref s.heap.objs.size,_,I.laid (t':=s.toks) (o:=.tup (xs++ys)) (fun b ob q=>Heap.get?_push_of_some _ q) (Nat.le_refl _) ?_,rfl,q2 (fun w=>z (r2.nil_iff.mpr w)) _ (I.hok.fresh (Nat.le_refl _))⟩
 exact ⟨by rw [List.length_append];exact hz,_,r1.append r2,IsTup.new _ _⟩
end
noncomputable def ixN (n:Nat) (i:Int):Option Nat:=if 0<=i then (if i<n then some i.toNat else none) else if -(n:Int)<=i then some (i+n).toNat else none
noncomputable def atI {α:Type} (xs:List α) (i:Int):Option α:=(ixN xs.length i).bind fun j=>xs[j]?
theorem zg {n:Nat} {i:Int} (h:ixN n i=some j):seqIndex? i n=some j/\j<n/\-(n:Int)<=i/\i<n:=by
 unfold ixN at h
 by_cases h0:0<=i
 ·rw [if_pos h0] at h
  by_cases h1:i<n
  ·rw [if_pos h1] at h
   have e:i.toNat=j:=Option.some.inj h
   exact ⟨by rw [seqIndex_of h0 h1,e],by omega,by omega,h1⟩
  ·rw [if_neg h1] at h;cases h
 ·rw [if_neg h0] at h
  by_cases h1 : -(n:Int)<=i
  ·rw [if_pos h1] at h
   have e:(i+n).toNat=j:=Option.some.inj h
   exact ⟨by rw [seqIndex_neg (by omega) h1,e],by omega,h1,by omega⟩
  ·rw [if_neg h1] at h;cases h
theorem uS {α:Type} {xs:List α} {i:Int} {v:α} (h:atI xs i=some v):∃ j,seqIndex? i xs.length=some j/\xs[j]?=some v/\j<xs.length/\-(xs.length:Int)<=i/\i<xs.length:=by
 unfold atI at h
 cases e:ixN xs.length i with
 | none=>rw [e] at h;cases h
 | some j=>
  rw [e] at h
  obtain ⟨h1,h2,h3,h4⟩:=zg e
  exact ⟨j,h1,h,h2,h3,h4⟩
theorem uP {α:Type} {xs:List α} {v:α} (h:xs[j]?=some v):atI xs (j:Int)=some v:=by
 have hj:j<xs.length:=(List.getElem?_eq_some_iff.mp h).1
 have e:ixN xs.length (j:Int)=some j:=by
  unfold ixN
  rw [if_pos (by omega),if_pos (by omega)];simp
 unfold atI;rw [e];exact h
noncomputable def va (b:Expr):Prop:=∀ o i,subscripted b false o i=operate [o,i] (getItem o i)
noncomputable def IxR (X:Cx) (r:R2):Prop:=
 ∀ (value slice:Expr) (pins:List (Addr×Obj)) (s:Shared) (σ:St) (H:Hp) (x y:V) (v u:Value) (Q:VK),Inv X pins σ H s->RelV x v->RelV y u->r x y H Q->
  subscripted slice false v u=operate [v,u] (getItem v u)->wpAny (model X.prog X.w) X.A (subscriptTail value slice v u) (EP X pins σ Q) X.xe s
noncomputable def MtR (X:Cx) (id:String) (r:V->List V->Hp->VK->Prop):Prop:=
 ∀ (pins:List (Addr×Obj)) (s:Shared) (σ:St) (H:Hp) (x:V) (xs:List V) (v:Value) (us:List Value) (Q:VK),Inv X pins σ H s->RelV x v->Vals xs us->r x xs H Q->
  wpAny (model X.prog X.w) X.A (call (.builtin id) (v::us)) (EP X pins σ Q) X.xe s
section
variable {X:Cx} {a b:Expr} {ta tb:TE} {pos:Pos}
theorem IxR.or {r r':R2} (h:IxR X r) (h':IxR X r'):IxR X (fun x y H Q=>r x y H Q\/r' x y H Q):=by
 intro value slice pins s σ H x y v u Q I rx ry q hs
 rcases q with q|q
 ·exact h value slice pins s σ H x y v u Q I rx ry q hs
 ·exact h' value slice pins s σ H x y v u Q I rx ry q hs
theorem Jx {r:R2} (hr:IxR X r) (ha:PE X a ta) (hb:PE X b tb) (hs:va b):PE X (.Subscript a b pos) (tOp r ta tb):=by
 intro pins s σ H Q I h
 exact Subscript_ (LO ha hb I h fun v u s2 x y H2 I2 rx ry q=>hr a b pins s2 σ H2 x y v u Q I2 rx ry q (hs _ _))
noncomputable def LV (K:W.Frag):R2:=fun x y H Q=>∃ p xs i v,x=.ref p/\y=.int i/\SqL K H p xs/\atI xs i=some v/\Q v H
noncomputable def Md (K:W.Frag):R2:=fun x y H Q=>∃ p xs i v,x=.ref p/\y=.int i/\SqT K H p xs/\atI xs i=some v/\Q v H
noncomputable def Mc:R2:=fun x y H Q=>∃ z i c,x=.str z/\y=.int i/\z.length<=sizeLine/\atI z.cps.toList i=some c/\Q (.str ⟨#[c]⟩) H
theorem ix_list:IxR X (LV X.K):=by
 intro value slice pins s σ H x y v u Q I rx ry h hs
 obtain ⟨p,xs,i,z,rfl,rfl,hq,he,q⟩:=h
 cases rx
 obtain ⟨t,rfl⟩:=ry
 obtain ⟨its,r,pl,hz⟩:=I.list hq
 obtain ⟨j,h1,h2,h3,h4,h5⟩:=uS he
 obtain ⟨w,ew,rw'⟩:=r.get h2
 have hl:=r.length
 have hn:=pO
 have fin:EP X pins σ Q w s:=⟨z,H,I,rw',q⟩
 by_cases h0:0<=i
 ·have hj:i.toNat=j:=by
   rw [seqIndex_of h0 h5] at h1
   exact Option.some.inj h1
  exact item_listR pl.isList h0 (by omega) (by rw [hj];simpa using ew) fin hs
 ·have hj:(i+(its.toArray.size:Int)).toNat=j:=by
   rw [seqIndex_neg (by omega) h4] at h1
   rw [List.size_toArray,<- hl]
   exact Option.some.inj h1
  exact subscriptTail_builtinR (x:=w) pl.isList.typeIs slot_list_getitem.lookup
   (wpAny_getItem_list_neg (Q:=fun r s'=>r=w/\EP X pins σ Q r s') pl.isList (by omega) (by rw [List.size_toArray] <;> omega) (by omega) (by rw [hj];simpa using ew) ⟨rfl,fin⟩) hs
theorem ix_tup:IxR X (Md X.K):=by
 intro value slice pins s σ H x y v u Q I rx ry h hs
 obtain ⟨p,xs,i,z,rfl,rfl,hq,he,q⟩:=h
 cases rx
 obtain ⟨t,rfl⟩:=ry
 obtain ⟨its,r,pl,hz⟩:=I.tuple hq
 obtain ⟨j,h1,h2,h3,h4,h5⟩:=uS he
 obtain ⟨w,ew,rw'⟩:=r.get h2
 have hl:=r.length
 have hn:=pO
 have fin:EP X pins σ Q w s:=⟨z,H,I,rw',q⟩
 exact subscriptTail_builtinR (x:=w) pl.typeIs slot_tuple_getitem.lookup
  (getItem_tuple (j:=j) (Q:=fun r s'=>r=w/\EP X pins σ Q r s') pl (by omega) (by omega) (by rw [List.size_toArray,<- hl];exact h1) (by simpa using ew) ⟨rfl,fin⟩) hs
theorem HX:IxR X Mc:=by
 intro value slice pins s σ H x y v u Q I rx ry h hs
 obtain ⟨z,i,c,rfl,rfl,hz,he,q⟩:=h
 obtain ⟨t,rfl⟩:=rx
 obtain ⟨t',rfl⟩:=ry
 obtain ⟨j,h1,h2,h3,h4,h5⟩:=uS he
 have hl:z.cps.toList.length=z.length:=by simp [Str.length]
 rw [hl] at h1 h4 h5
 have hn:=pO
 exact tail_any (typeIs_str s z t) slot_str_getitem.lookup (getItem_str (c:=c) (by
  have e1:decide (i < -(2 ^ 63:Int))=false:=decide_eq_false (by omega)
  have e2:decide (i ≥ 2 ^ 63)=false:=decide_eq_false (by omega)
  rw [e1,e2,Bool.or_false]) (by rw [h1];simpa using h2) ⟨.str ⟨#[c]⟩,H,I.tok _,⟨_,rfl⟩,q⟩) hs
noncomputable def rIx (K:W.Frag):R2:=fun x y H Q=>LV K x y H Q\/Md K x y H Q\/Mc x y H Q
theorem Iw:IxR X (rIx X.K):=ix_list.or (ix_tup.or HX)
theorem yh (its:List Value) (n j:Nat) (u:Value):Obj.mapSeq (·.setIfInBounds j u) { cls:=.type "list",data:=.seq its.toArray n }={ cls:=.type "list",data:=.seq (its.set j u).toArray n }:=by
 simp [Obj.mapSeq]
theorem Inv.lst {p:Addr} (I:Inv X pins σ H s) (h:H p=some (.lst xs)) :
  ∃ (its:List Value) (n:Nat),Vals xs its/\s.heap.get? p=some { cls:=.type "list",data:=.seq its.toArray n }/\xs.length<=sizeLine:=by
 obtain ⟨z,its,n,r,e⟩:=I.hok p _ h
 exact ⟨its,n,r,e,z⟩
theorem Inv.lstUpd {p:Addr} {ys:List V} {its':List Value} {n n':Nat} {f:Obj->Obj} (I:Inv X pins σ H s) (h:H p=some (.lst xs))
 (ho:s.heap.get? p=some { cls:=.type "list",data:=.seq its.toArray n }) (hf:f { cls:=.type "list",data:=.seq its.toArray n }={ cls:=.type "list",data:=.seq its'.toArray n' }) (r:Vals ys its') (hz:ys.length<=sizeLine) (t:Nat) :
  Inv X pins σ (upd H p (.lst ys)) { s with heap:=s.heap.update p f,toks:=t }:=by
 have e:(s.heap.update p f).get? p=some { cls:=.type "list",data:=.seq its'.toArray n' }:=by
  rw [Heap.get?_update_self f ho (by rw [hf] <;> rfl),hf]
 refine I.write (x:=p) (e:=p) (by rw [h];trivial) (.inl rfl) (fun b u hb q=>(Heap.get?_update_other _ _ (Ne.symm hb)).trans q) ⟨_,e⟩ ?_
 exact ⟨hz,its',n',r,e⟩
noncomputable def J7:V->V->V->Hp->(Hp->Prop)->Prop:=fun o i v H Q=>∃ p xs k j,o=.ref p/\i=.int k/\H p=some (.lst xs)/\ixN xs.length k=some j/\Q (upd H p (.lst (xs.set j v)))
theorem B5:KT X J7:=by
 intro pins s σ H o i v ov iv u Q I ro ri rv h
 obtain ⟨p,xs,k,j,rfl,rfl,hp,hj,q⟩:=h
 cases ro
 obtain ⟨t,rfl⟩:=ri
 obtain ⟨its,n,r,ho,hz⟩:=I.lst hp
 obtain ⟨h1,h2,h3,h4⟩:=zg hj
 have hl:=r.length
 have hn:=pO
 have I':Inv X pins σ (upd H p (.lst (xs.set j v))) { s with heap:=s.heap.update p (Obj.mapSeq (·.setIfInBounds j u)) }:=
  I.lstUpd hp ho (yh its n j u) (r.set rv j) (by rw [List.length_set];exact hz) s.toks
 by_cases h0:0<=k
 ·have hk:k.toNat=j:=by
   rw [seqIndex_of h0 h4] at h1
   exact Option.some.inj h1
  exact W.ki_setAt ho h0 (by omega) (by rw [List.size_toArray,<- hl];exact h4) (by rw [hk];exact ⟨_,I',q⟩)
 ·have hk:(k+(its.toArray.size:Int)).toNat=j:=by
   rw [seqIndex_neg (by omega) h3] at h1
   rw [List.size_toArray,<- hl]
   exact Option.some.inj h1
  exact W.ki_setBack ho (by omega) (by rw [List.size_toArray,<- hl];exact h3) (by omega) (by rw [hk];exact ⟨_,I',q⟩)
theorem sW (lo hi:Option Int) (n:Nat):(sliceBounds lo hi none n).1=((HT.sIx n 0 lo:Nat):Int)/\(sliceBounds lo hi none n).2.1=((HT.sIx n n hi:Nat):Int)/\(sliceBounds lo hi none n).2.2=1:=by
 refine ⟨?_,?_,rfl⟩
 ·cases lo with
  | none=>simp [sliceBounds,HT.sIx]
  | some i=>
   simp only [sliceBounds,HT.sIx,Option.getD_none,show (1:Int) > 0 by decide,if_true]
   by_cases h:i<0
   ·simp only [h,if_true] <;> omega
   ·simp only [h,if_false] <;> omega
 ·cases hi with
  | none=>simp [sliceBounds,HT.sIx]
  | some i=>
   simp only [sliceBounds,HT.sIx,Option.getD_none,show (1:Int) > 0 by decide,if_true]
   by_cases h:i<0
   ·simp only [h,if_true] <;> omega
   ·simp only [h,if_false] <;> omega
theorem pR (its:List Value) (lo hi:Option Int):slicePick its.toArray lo hi none=((its.drop (HT.sIx its.length 0 lo)).take (HT.sIx its.length its.length hi - HT.sIx its.length 0 lo)).toArray:=by
 obtain ⟨h1,h2,h3⟩:=sW lo hi its.toArray.size
 unfold slicePick
 rw [h1,h2,h3]
 simp only [sliceRange_one,pick_run,List.size_toArray] <;> rfl
noncomputable def LY (K:W.Frag):V->Option Int->Option Int->Hp->VK->Prop:=fun x lo hi H Q=>∃ a xs,x=.ref a/\SqL K H a xs/\∀ p,H p=none->Q (.ref p) (upd H p (.lst (D9 xs lo hi)))
theorem Gr:SlR X (LY X.K):=by
 intro pins s σ H x v vl vu lo hi sl Q I rx hs pl pu h
 obtain ⟨a,xs,rfl,hx,q⟩:=h
 cases rx
 obtain ⟨its,r,ht,hz⟩:=I.list hx
 have hlen:=r.length
 refine ⟨"list",_,slot_list_getitem.lookup,ht.isList.typeIs,?_⟩
 refine wpAny_getItem_list_slice ht.isList hs pl pu .none (by simp) ?_ (by rw [List.size_toArray] <;> omega)
 rw [pR,<- hlen]
 refine ⟨.ref s.heap.objs.size,_,I.laid (t':=s.toks) (o:=.lst (D9 xs lo hi)) (fun b ob q=>Heap.get?_push_of_some _ q) (Nat.le_refl _) ?_,rfl,q _ (I.hok.fresh (Nat.le_refl _))⟩
 exact ⟨Nat.le_trans (nT xs lo hi) hz,_,0,(r.drop (HT.sIx xs.length 0 lo)).take (HT.sIx xs.length xs.length hi - HT.sIx xs.length 0 lo),Heap.get?_push_size _ rfl⟩
theorem tN:nJ X (.type "list") (fun xs H Q=>∃ p ys,xs=[.ref p]/\(SqL X.K H p ys\/SqT X.K H p ys)/\∀ l,H l=none->Q (.ref l) (upd H l (.lst ys))):=by
 intro pins s σ H xs us Q I r h
 obtain ⟨p,ys,rfl,hq,q⟩:=h
 obtain ⟨u,rfl,rx⟩:=CC r
 cases rx
 have fin:∀ (its:List Value),Vals ys its->ys.length<=sizeLine->∀ (h':Heap) (c':Nat),(∀ b o',s.heap.get? b=some o'->h'.get? b=some o')->
   h'.get? s.heap.objs.size=some { cls:=.type "list",dict:=none,data:=.seq its.toArray c',slots:=#[] }->EP X pins σ Q (.ref s.heap.objs.size) { s with heap:=h' }:=fun its r' hz h' c' kp e=>
  ⟨.ref s.heap.objs.size,_,I.laid (t':=s.toks) kp (Nat.le_refl _) (show ObjOk X.prog X.w _ h' _ (.lst ys) from ⟨hz,its,c',r',e⟩),rfl,q _ (I.hok.fresh (Nat.le_refl _))⟩
 rcases hq with hq|hq
 ·obtain ⟨its,r',pl,hz⟩:=I.list hq
  have hlen:=r'.length
  obtain ⟨o,ho,hc,n,hd⟩:=pl.isList
  exact call_list_seq p (.inl rfl) ho hc hd (fun h' c' kp e=>fin its r' hz h' c' kp e) (by simp only [List.size_toArray] <;> omega)
 ·obtain ⟨its,r',pl,hz⟩:=I.tuple hq
  have hlen:=r'.length
  obtain ⟨o,ho,hc,n,hd⟩:=pl
  exact call_list_seq p (.inr rfl) ho hc hd (fun h' c' kp e=>fin its r' hz h' c' kp e) (by simp only [List.size_toArray] <;> omega)
theorem qQ:nJ X (.type "tuple") (fun xs H Q=>∃ p ys,xs=[.ref p]/\((SqL X.K H p ys/\∀ l,H l=none->Q (.ref l) (upd H l (.tup ys)))\/(SqT X.K H p ys/\Q (.ref p) H))):=by
 intro pins s σ H xs us Q I r h
 obtain ⟨p,ys,rfl,h⟩:=h
 obtain ⟨u,rfl,rx⟩:=CC r
 cases rx
 rcases h with ⟨hq,q⟩|⟨hq,q⟩
 ·obtain ⟨its,r',pl,hz⟩:=I.list hq
  have hlen:=r'.length
  refine call_tuple_list pl.isList (fun h' kp=>?_) (by simp only [List.size_toArray] <;> omega)
  have I1:Inv X pins σ H { s with heap:=h' }:=I.kept (t':=s.toks) kp
  have I2:Inv X pins σ (upd H h'.objs.size (.tup ys)) { s with heap:=h'.push { cls:=.type "tuple",data:=.seq its.toArray } }:=
   I1.laid (t':=s.toks) (fun b o e=>Heap.get?_push_of_some _ e) (Nat.le_refl _) (show ObjOk X.prog X.w _ _ _ (.tup ys) from ⟨hz,its,r',IsTup.new _ _⟩)
  exact ⟨.ref h'.objs.size,_,I2,rfl,q _ (I1.hok.fresh (Nat.le_refl _))⟩
 ·obtain ⟨its,r',pl,hz⟩:=I.tuple hq
  exact call_tuple_same pl ⟨.ref p,H,I,rfl,q⟩
noncomputable def tyV (K:W.Frag) (T:String) (x:V) (H:Hp):Prop:=match x with
 | .str _=>T="str"
 | .int _=>T="int"
 | .ref p=>(T="list"/\∃ xs,SqL K H p xs)\/(T="tuple"/\∃ o,K.lookup p=some o/\o.cls=.type "tuple"/\o.dict=none)\/
   (T="dict"/\((∃ kvs,H p=some (.dK kvs))\/∃ kvs,H p=some (.dT kvs)))\/(T="set"/\∃ S n,H p=some (.set S n))
 | _=>False
theorem Hg {T:String} {x:V} {v:Value} (I:Inv X pins σ H s) (r:RelV x v) (ty:tyV X.K T x H) :
  s.TypeIs v T/\∀ a,v=.ref a->∃ ob,s.heap.get? a=some ob/\ob.dict=none:=by
 cases x with
 | str z=>
  obtain ⟨t,rfl⟩:=r
  cases (show T="str" from ty)
  exact ⟨typeIs_str s z t,fun _ e=>nomatch e⟩
 | int i=>
  obtain ⟨t,rfl⟩:=r
  cases (show T="int" from ty)
  exact ⟨typeIs_int s i t,fun _ e=>nomatch e⟩
 | ref p=>
  cases r
  rcases ty with ⟨rfl,xs,hq⟩|⟨rfl,o,hk,hc,hd⟩|⟨rfl,hk⟩|⟨rfl,S,n,hk⟩
  ·obtain ⟨its,_,pl,_⟩:=I.list hq
   refine ⟨pl.isList.typeIs,fun a e=>?_⟩
   cases e
   obtain ⟨o,n,e,c,hd,_⟩:=pl
   exact ⟨o,e,hd⟩
  ·refine ⟨⟨o,I.kIn p o hk,hc⟩,fun a e=>?_⟩
   cases e
   exact ⟨o,I.kIn _ o hk,hd⟩
  ·have z:∃ o,s.heap.get? p=some o/\o.ExactDict:=by
    rcases hk with ⟨kvs,hk⟩|⟨kvs,hk⟩
    ·obtain ⟨_,_,_,_,o,_,_,e,ex,_⟩:=I.hok p _ hk
     exact ⟨o,e,ex⟩
    ·obtain ⟨_,_,_,_,o,_,_,e,ex,_⟩:=I.hok p _ hk
     exact ⟨o,e,ex⟩
   obtain ⟨o,e,ex⟩:=z
   refine ⟨⟨o,e,ex.1⟩,fun a e2=>?_⟩
   cases e2
   exact ⟨o,e,ex.2.1⟩
  ·obtain ⟨o,_,_,_,e,ex,_⟩:=I.hok p _ hk
   refine ⟨⟨o,e,ex.1⟩,fun a e2=>?_⟩
   cases e2
   exact ⟨o,e,ex.2.1⟩
 | _=>exact False.elim ty
noncomputable def tBM (K:W.Frag) (T:String) (r:V->List V->Hp->VK->Prop) (to:TE) (t:TA):TE:=fun σ H Q=>to σ H fun x H1=>tyV K T x H1/\t σ H1 fun xs H2=>r x xs H2 Q
variable {o e:Expr} {es:List Expr} {to:TE} {t:TA} {name:Str} {apos cpos:Pos} {T id:String} {r:V->List V->Hp->VK->Prop}
theorem B1 (pa:PlainAttrs T) (slot:Slot T name id) (hty:typeOf (.builtin id)=pure (.type "method_descriptor")) (hm:MtR X id r) (ho:PE X o to) (ha:PA X (e::es) t)
 (hbase:attributeBase o name X.env (eval o X.env)=eval o X.env:=by rfl)
 (hfew:((backTo cpos (starEach (e::es) X.env)).all (fun x=>!x.1) && (backToKw cpos (keywordEach [] X.env)).all (fun x=>x.1.isSome)
 && decide ((e::es).length+([]:List Keyword).length+(if ([]:List Keyword).isEmpty then 0 else 1)<30))=true:=by rfl)
 (hline:(apos.endLine==cpos.line)=true:=by rfl) (hs:starEach (e::es) X.env=(false,eval e X.env)::starEach es X.env:=by rfl) (hplain:(backTo cpos (starEach es X.env)).any (·.1)=false:=by rfl) :
  PE X (.Call (.Attribute o name apos) (e::es) [] cpos) (tBM X.K T r to t):=by
 intro pins s σ H Q I h
 refine wpAny_Call_method_late hbase hfew hline rfl (thn (ho pins s σ H _ I h) fun v s1 ⟨x,H1,I1,r1,ty,q1⟩=>?_)
 obtain ⟨h1,h2⟩:=Hg I1 r1 ty
 refine ⟨T,id,pa,slot,hty,h1,h2,?_⟩
 have hA:=ha cpos pins s1 σ H1 _ I1 q1
 rw [hs] at hA ⊢
 refine Calls.callWith_builtin (by show (false || (backTo cpos (starEach es X.env)).any (·.1))=false;rw [hplain] <;> rfl) (Calls.evalArgs_plain ?_)
 exact thn hA fun us s2 ⟨vs,H2,I2,r2,q2⟩=>hm pins s2 σ H2 x vs v us Q I2 r1 r2 q2
/- xs.append(e),list.index on a module's tuple .. are MtR facts of 06m -/
end
noncomputable def MtM (X:Cx) (id:String) (r:V->List V->Hp->VK->Prop):Prop:=
 ∀ (pins:List (Addr×Obj)) (s:Shared) (σ:St) (H:Hp) (x:V) (xs:List V) (v:Value) (us:List Value) (Q:VK),Inv X pins σ H s->RelV x v->Vals xs us->r x xs H Q->
  wpAny (model X.prog X.w) X.A (call (.builtin id) (v::us)) (EP X pins σ Q) X.xe s
theorem Vals.one:∀ {x:V} {us:List Value},Vals [x] us->∃ u,us=[u]/\RelV x u
 | _,_,.cons r .nil=>⟨_,rfl,r⟩
theorem Vals.two:∀ {x y:V} {us:List Value},Vals [x,y] us->∃ u v,us=[u,v]/\RelV x u/\RelV y v
 | _,_,_,.cons r (.cons q .nil)=>⟨_,_,rfl,r,q⟩
theorem Vals.rep (h:Vals xs us):∀ k:Nat,Vals (List.replicate k xs).flatten (List.replicate k us).flatten
 | 0=>.nil
 | k+1=>by
  rw [List.replicate_succ,List.replicate_succ,List.flatten_cons,List.flatten_cons]
  exact Vals.append h (Vals.rep h k)
theorem jS (its:List Value):∀ (k:Nat) (acc:List Value),
  List.foldl (fun x1 x2=>x1++x2) acc.toArray (List.replicate k its.toArray)=(acc++(List.replicate k its).flatten).toArray
 | 0,acc=>by simp
 | k+1,acc=>by
  have e:acc.toArray++its.toArray=(acc++its).toArray:=by simp
  have e2:(acc++its)++(List.replicate k its).flatten=acc++(List.replicate (k+1) its).flatten:=by
   rw [List.replicate_succ,List.flatten_cons,List.append_assoc]
  rw [<- e2,<- jS its k (acc++its),<- e,List.replicate_succ,List.foldl_cons]
section
variable {X:Cx} {pins:List (Addr×Obj)} {σ:St} {H:Hp} {s:Shared} {l b:Addr} {xs ys zs:List V}
theorem Inv.lset {its':List Value} {n:Nat} {f:Array Value->Array Value} {t':Nat} (I:Inv X pins σ H s) (hH:H l=some (.lst xs))
 (e:s.heap.get? l=some { cls:=.type "list",data:=.seq its.toArray n }) (hf:f its.toArray=its'.toArray) (hv:Vals ys its') (hz:ys.length<=sizeLine) :
  Inv X pins σ (upd H l (.lst ys)) { s with heap:=s.heap.update l (Obj.mapSeq f),toks:=t' }:=by
 have q:=PySem.IsL.update e f
 rw [hf] at q
 refine I.write (x:=l) (e:=l) (by rw [hH];exact trivial) (.inl rfl) (fun b' u hb hu=>(Heap.get?_update_other s.heap (Obj.mapSeq f) (Ne.symm hb)).trans hu) ⟨_,q⟩ ?_
 exact ⟨hz,its',_,hv,q⟩
theorem Inv.lnew {t':Nat} (I:Inv X pins σ H s) (hv:Vals ys its) (hz:ys.length<=sizeLine) :
  Inv X pins σ (upd H s.heap.objs.size (.lst ys)) { s with heap:=s.heap.push { cls:=.type "list",data:=.seq its.toArray },toks:=t' }:=
 I.laid (fun _ _ q=>Heap.get?_push_of_some _ q) (Nat.le_refl _) ⟨hz,its,0,hv,Heap.get?_push_size _ rfl⟩
theorem Inv.fresh (I:Inv X pins σ H s):H s.heap.objs.size=none:=I.hok.fresh (Nat.le_refl _)
theorem Inv.lstM (I:Inv X pins σ H s) (hH:H l=some (.lst xs)):xs.length<=sizeLine/\∃ (its:List Value) (n:Nat),Vals xs its/\xs.length=its.length/\s.heap.get? l=some { cls:=.type "list",data:=.seq its.toArray n }:=by
 obtain ⟨z,its,n,r,e⟩:=I.hok l _ hH
 exact ⟨z,its,n,r,r.length,e⟩
theorem qy {n:Nat} (h:n<=sizeLine):Builtin.List.listTooLong n=false:=by
 unfold Builtin.List.listTooLong
 exact decide_eq_false (by omega)
end
section
variable {X:Cx}
noncomputable def ET:V->List V->Hp->VK->Prop:=fun x vs H Q=>∃ l xs y,x=.ref l/\vs=[y]/\H l=some (.lst xs)/\xs.length<sizeLine/\Q .non (upd H l (.lst (xs++[y])))
theorem rH:MtM X "list.append" ET:=by
 intro pins s σ H x vs v us Q I rx rv h
 obtain ⟨l,xs,y,rfl,rfl,hH,hz,q⟩:=h
 cases rx
 obtain ⟨u,rfl,ru⟩:=rv.one
 obtain ⟨z,its,n,r,hl,e⟩:=I.lstM hH
 refine call_meets F.slot_list_append ⟨_,e,rfl⟩ F.entry_list_append (F.args_list_append_2 _ _) (PySem.list_append l its.toArray n u (by rw [List.size_toArray];omega)) ⟨e,?_⟩
 refine ⟨.non,_,I.lset (its':=its++[u]) hH e (by simp) (r.append (.cons ru .nil)) ?_,rfl,q⟩
 rw [List.length_append,List.length_singleton]
 omega
noncomputable def FQ:V->List V->Hp->VK->Prop:=fun x vs H Q=>∃ l b xs zs,x=.ref l/\vs=[.ref b]/\H l=some (.lst xs)/\H b=some (.lst zs)/\xs.length+zs.length<=sizeLine/\Q .non (upd H l (.lst (xs++zs)))
theorem AF:MtM X "list.extend" FQ:=by
 intro pins s σ H x vs v us Q I rx rv h
 obtain ⟨l,b,xs,zs,rfl,rfl,hH,hB,hz,q⟩:=h
 cases rx
 obtain ⟨u,rfl,ru⟩:=rv.one
 cases ru
 obtain ⟨z,its,n,r,hl,e⟩:=I.lstM hH
 obtain ⟨z2,its2,n2,r2,hl2,e2⟩:=I.lstM hB
 have hsz:its.toArray.size+its2.toArray.size<=sizeLine:=by rw [List.size_toArray,List.size_toArray];omega
 have hlong : ¬ (!its.toArray.isEmpty && Builtin.List.listTooLong (its.toArray.size+its2.toArray.size))=true:=by
  rw [qy hsz,Bool.and_false]
  exact Bool.false_ne_true
 refine call_meets F.slot_list_extend ⟨_,e,rfl⟩ F.entry_list_extend (F.args_list_extend_2 _ _)
  (AutoSeq1.list_extend_list_list_0 l its.toArray n b its2.toArray n2 hlong (by rw [List.size_toArray];omega) (by omega)) ⟨e,e2,?_⟩
 refine ⟨.non,_,I.lset (its':=its++its2) hH e (by simp) (r.append r2) ?_,rfl,q⟩
 rw [List.length_append]
 omega
noncomputable def Mg:R2:=fun x y H Q=>∃ l b xs zs,x=.ref l/\y=.ref b/\H l=some (.lst xs)/\H b=some (.lst zs)/\xs.length+zs.length<=sizeLine/\∀ p,H p=none->Q (.ref p) (upd H p (.lst (xs++zs)))
theorem op_cat:OpR X (binaryOp .Add) Mg:=by
 intro pins s σ H x y v u Q I rx ry h
 obtain ⟨l,b,xs,zs,rfl,rfl,hH,hB,hz,q⟩:=h
 cases rx
 cases ry
 obtain ⟨z,its,n,r,hl,e⟩:=I.lstM hH
 obtain ⟨z2,its2,n2,r2,hl2,e2⟩:=I.lstM hB
 refine PySem.P.add_list e e2 ?_ (by rw [List.size_toArray,List.size_toArray];omega)
 have ea:its.toArray++its2.toArray=(its++its2).toArray:=by simp
 rw [ea]
 exact ⟨.ref _,_,I.lnew (t':=s.toks) (r.append r2) (by rw [List.length_append];omega),rfl,q _ I.fresh⟩
noncomputable def Me:R2:=fun x y H Q=>∃ l k xs,x=.ref l/\y=.int k/\H l=some (.lst xs)/\-(2 ^ 63)<=k/\k<2 ^ 63/\xs.length * k.toNat<=sizeLine/\
 ∀ p,H p=none->Q (.ref p) (upd H p (.lst (List.replicate k.toNat xs).flatten))
theorem qf {α:Type} (xs:List α) (k:Nat):(List.replicate k xs).flatten.length=k * xs.length:=by
 induction k with
 | zero=>simp
 | succ k ih=>rw [List.replicate_succ,List.flatten_cons,List.length_append,ih,Nat.succ_mul,Nat.add_comm]
theorem GZ:OpR X (binaryOp .Mult) Me:=by
 intro pins s σ H x y v u Q I rx ry h
 obtain ⟨l,k,xs,rfl,rfl,hH,h1,h2,hz,q⟩:=h
 cases rx
 obtain ⟨t,rfl⟩:=ry
 obtain ⟨z,its,n,r,hl,e⟩:=I.lstM hH
 have hlen:its.toArray.size * k.toNat<=sizeLine:=by rw [List.size_toArray,<- hl];exact hz
 have hcap : ¬ its.toArray.size * k.toNat > (2 ^ 63 - 1) / 8:=by
  have:(sizeLine:Nat)<=(2 ^ 63 - 1) / 8:=by decide
  omega
 have hfit : ¬ (!Builtin.List.listFitsIndex k)=true:=by
  rw [fitsIndex_both h1 h2]
  exact Bool.false_ne_true
 have hlong : ¬ Builtin.List.listTooLong (its.toArray.size * k.toNat)=true:=by
  rw [qy hlen]
  exact Bool.false_ne_true
 have hnew:List.foldl (fun x1 x2=>x1++x2) #[] (List.replicate (if its.toArray.isEmpty=true then 0 else k.toNat) its.toArray)=(List.replicate k.toNat its).flatten.toArray:=by
  have f0:∀ m:Nat,List.foldl (fun x1 x2=>x1++x2) #[] (List.replicate m its.toArray)=(List.replicate m its).flatten.toArray:=fun m=>by
   have:=jS its m []
   rw [List.nil_append] at this
   exact this
  rw [f0]
  cases its with
  | nil=>simp
  | cons a r'=>rw [if_neg (by simp)]
 refine wpAny_binaryOp_repeat_ref (T:="list") (U:="int") (by decide) ⟨_,e,rfl⟩ (fun s'=>typeIs_int s' k t) noFill_list_mul F.fills_int_mul F.slot_int_rmul repeat_list F.slot_int_index.lookup
  (call_meets F.slot_int_rmul (typeIs_int s k t) F.entry_int_rmul (F.args_int_rmul_2 _ _) (int___rmul___int_list k t l its.toArray n)
   ⟨e,rfl,⟨_,e,rfl⟩,call_meets F.slot_list_mul ⟨_,e,rfl⟩ F.entry_list_mul (F.args_list_mul_2 _ _) (AutoListH.list___mul___list_int_3 l its.toArray n k t hfit hcap hlong) ⟨e,?_⟩⟩)
 rw [hnew]
 exact ⟨.ref _,_,I.lnew (t':=s.toks) (r.rep k.toNat) (by rw [qf,Nat.mul_comm];exact hz),rfl,q _ I.fresh⟩
end
end L2
namespace Att
open PySem PySem.W PySem.Calls PyProof.Rows
theorem nR {P:Params}:∀ (ns:List Int) (vs:List Value),WellAll P h vs (ns.map WData.int)->IntsAre vs ns:=by
 intro ns
 induction ns with
 | nil=>
  intro vs w
  rw [List.map_nil] at w
  cases w
  exact .nil
 | cons n ns ih=>
  intro vs w
  rw [List.map_cons] at w
  cases w with
  | cons a b=>
   cases a
   exact .cons _ _ (ih _ b)
theorem zU {l:OpenLaw} {n:Nat} (hn:l.most=some n) {P:Params} {args:List WData} {vals:List Value}
 (hpre:l.row.toRowW.claim.pre args=true) (hwl:WellAll P h vals args) :
  ∃ a vs ns,vals=[Value.ref a]/\args=[WData.list (ns.map WData.int)]/\h.get? a=some { cls:=.type "list",data:=.seq vs.toArray }/\IntsAre vs ns/\ns.length<=n:=by
 have hsh:WShape.hasAll [] args [.list .int]=true:=(pre_splitW hpre).1
 have hc:l.pre.holds [] { args:=args }=true:=(pre_splitW hpre).2
 obtain ⟨d,r,rfl,h1,h2⟩:=hasAllW_cons hsh
 obtain rfl:=hasAllW_nil h2
 obtain ⟨xs,rfl,h3⟩:=hasW_list h1
 obtain ⟨ns,rfl⟩:=items_int h3
 have hlen:ns.length<=n:=by
  unfold OpenLaw.pre at hc
  have h4:(WTm.not (.lt (.lit (.int (n:Int))) (.len (.arg 0)))).holds [] { args:=[.list (ns.map .int)] }=true:=by
   have h4:=(holds_andW hc).1
   rw [hn] at h4
   exact h4
  have h5:=condW_of h4 (w_not (w_lt w_lit (w_len_list (w_arg rfl))))
  rw [List.length_map] at h5
  refine Nat.le_of_not_lt fun q=>?_
  have q':(n:Int)<((ns.length:Nat):Int):=by omega
  first
   | (rw [decide_eq_true q'] at h5;exact absurd h5 (by decide))
   | (simp at h5;omega)
 cases hwl with
 | cons w1 w2=>
  cases w2
  cases w1 with
  | list ho hall=>exact ⟨_,_,ns,rfl,rfl,ho,nR ns _ hall,hlen⟩
theorem zd (l:OpenLaw) (args:List WData):l.row.toRowW.claim.post args (.bool true) args=true:=
 postW_of (r:=l.row.toRowW) (X:=(true==true))
  (show WShape.has [] (.bool true) .bool=true by first|rfl|decide|simp [WShape.has,WShape.arms,WShape.armsAll])
  (show (WTm.eq .res (.lit (.bool true))).value [] { args:=args,res:=some (.bool true),after:=args }=some (.bool (true==true)) from w_eq_bool (w_res rfl) w_lit) rfl
theorem attach_call {l:OpenLaw} {n:Nat} {q:Program} {XP:(Str->Option Value)->Heap->Prop} {YP:World->Heap->Prop} {d:DefRec}
 (hn:l.most=some n) (hdf:d.params.defaults=[])
 (call:∀ (w:World) (s₀ s₁:Shared) (mg mb:Str->Option Value) (fa:Addr) (o:Obj) (pm cd doc:Value) (a:Addr) (vs:List Value) (ns:List Int),
 Ground q loose [] XP w s₀ mg mb s₁.heap->YP w s₁.heap->
 s₁.heap.get? fa=some o->o.data=.func (docDef d.name d.params d.body d.scope pm cd doc)->s₁.heap.CodeRec cd d.name->mg d.name=some (.ref fa)->
 s₁.heap.get? a=some { cls:=.type "list",data:=.seq vs.toArray }->IntsAre vs ns->ns.length<=n->s₁.gens = #[]->
 codeAny (model l.prog w) callerA (.call (.ref fa) ⟨[.ref a],[]⟩) (fun r s'=>r=.ok (.ret (.bool true))/\OldK s₁.heap s'.heap/\s'.os=s₁.os/\AllBare s'.gens) s₁) :
  WalkO q loose XP YP l.row.toRowW d [] (fun f vs=>PySem.call f vs):=by
 intro w s₀ s₁ mg mb G Y fa o pm cd doc dV kV ho hd hcd hD hmg hg args vals as hpre hlay hrd hwl hlo
 obtain rfl:dV=.none:=Dflts.none hD hdf
 obtain rfl:kV=.none:=Dflts.noKw hD
 obtain ⟨a,vs,ns,rfl,rfl,hobj,hints,hlen⟩:=zU hn hpre hwl
 refine enter_call (codeAny_mono (call w s₀ s₁ mg mb fa o pm cd doc a vs ns G Y ho (fd_plain hd) hcd hmg hobj hints hlen hg) fun r s' hq=>?_)
 obtain ⟨rfl,h2,h3,h4⟩:=hq
 exact ⟨.inl ⟨.bool true,.bool true,[],rfl,fun _=>rfl,.bool true,zd l _,fun _=>⟨List.Pairwise.nil,fun _ hm=>(nomatch hm)⟩⟩,h2,h3,h4⟩
section
variable {prog:Program} {w:World} {A:Around} {E:Value->Shared->Prop} {s:Shared} {K:Frag}
noncomputable def L7 (h:Heap) (L d:Addr):List (Addr×Obj):=(List.range h.objs.size).filterMap fun a=>if a=L\/a=d then none else (h.get? a).map fun o=>(a,o)
end
end Att
namespace L2
open PySem PySem.Spec PyProof.Rows
theorem rK:∀ {vs:List Value} {ns:List Int},IntsAre vs ns->Vals (ns.map V.int) vs
 | _,_,.nil=>.nil
 | _,_,.cons n t h=>.cons ⟨t,rfl⟩ (rK h)
noncomputable def Ki (H:Hp):Prop:=∀ b,H b=none\/∃ o xs,H b=some (.frz o (.lst xs))
theorem BS {w:World} {K:W.Frag} {mg mb:Str->Option Value} {fa:Addr} {sp:Sp} {s₁:Shared} {vs:List Value} {ns:List Int}
 (KX:K.In s₁.heap) (hns:s₁.heap.Ns mainGlobals mg) (hb:s₁.heap.Ns builtinsNs mb) (hbb:∀ x:Str,x ≠ "__name__"->mb x=bootBuiltins x) (hlim:s₁.heap.NoLimit) (hg:s₁.gens = #[])
 (ha:s₁.heap.get? a=some { cls:=.type "list",data:=.seq vs.toArray }) (hi:IntsAre vs ns) (hl:ns.length<=sizeLine) (hr:Room k callerA)
 (F:∀ base:Heap,K.In base->base.Ns mainGlobals mg->FnOk P w K mg base CX k fa fd [x] sp) (hbind:∀ (s:Shared) (u:Value),BindsTo s fd ⟨[u],[]⟩ [(x,u)])
 (hsp:∀ H:Hp,Ki H->SqL K H a (ns.map V.int)->sp [.ref a] H (fun v _=>v=.bl true) fun _ _ _=>False)
 (hCX:∀ H e s',CX [] H s₁ (fun _ _ _=>False) e s'->False) :
  codeAny (model P w) callerA (.call (.ref fa) ⟨[.ref a],[]⟩) (fun r s'=>r=.ok (.ret (.bool true))/\OldK s₁.heap s'.heap/\s'.os=s₁.os/\AllBare s'.gens) s₁:=by
 have rv:=rK hi
 have lenV:=hi.length
 have core:∀ H:Hp,Ki H->SqL K H a (ns.map V.int)->HOk P w H s₁.heap->(∀ b,H b≠none->b=a)->(H a≠none->K.lookup a=none)->
   codeAny (model P w) callerA (.call (.ref fa) ⟨[.ref a],[]⟩) (fun r s'=>r=.ok (.ret (.bool true))/\OldK s₁.heap s'.heap/\s'.os=s₁.os/\AllBare s'.gens) s₁:=by
  intro H hO hS hok hA hK
  have base_of:∀ {b:Addr} {o:Obj},s₁.heap.get? b=some o->H b=none->(BC s₁.heap H).get? b=some o:=fun e n=>B6 e n
  have noA:∀ {b:Addr} {o:Obj} {es:Array DictEntry} {ep:Nat},s₁.heap.get? b=some o->o.data=.dict es ep->H b=none:=fun {b o es ep} e d=>by
   cases q:H b with
   | none=>rfl
   | some u=>
    have e':b=a:=hA b (by rw [q];simp)
    subst e'
    rw [ha] at e;cases e
    have d':Data.seq vs.toArray _=Data.dict es ep:=d
    cases d'
  have nsK:∀ {b:Addr} {m:Str->Option Value},s₁.heap.Ns b m->(BC s₁.heap H).Ns b m:=fun {b m} ⟨o,es,ep,e,d,r⟩=>⟨o,es,ep,base_of e (noA e d),d,r⟩
  have hKb:K.In (BC s₁.heap H):=fun b o e=>base_of (KX b o e) (by
   cases q:H b with
   | none=>rfl
   | some u=>
    have e':b=a:=hA b (by rw [q];simp)
    subst e'
    rw [hK (by rw [q];simp)] at e;cases e)
  have hM:Mod K mg (BC s₁.heap H):=⟨hKb,nsK hns,⟨mb,nsK hb,hbb⟩,let ⟨mc,h1,h2⟩:=hlim;⟨mc,nsK h1,h2⟩⟩
  have e0:Env0 P w K mg (BC s₁.heap H) callerA [] s₁ H:=⟨rfl,hM,fun b o e=>Go e,Nat.le_of_eq (A7 _ _),trivial,fun b hb=>absurd (show b∈([]:List Addr) from hb) (by simp),hok,.of_eq hg,AS _ _⟩
  refine codeAny_mono ((F _ hKb (nsK hns)).run callerA [] s₁ H ⟨[.ref a],[]⟩ [.ref a] [.ref a] _ _ hr e0 (hbind s₁ (.ref a)) (.cons rfl .nil) (hsp H hO hS)) fun r s' h=>?_
  cases r with
  | error e=>exact (hCX H e s' h).elim
  | ok fl=>
   cases fl with
   | next=>exact False.elim h
   | brk=>exact False.elim h
   | cont=>exact False.elim h
   | ret u=>
    obtain ⟨v,H',os,bare,un,hok',r',q⟩:=h
    have q':v=.bl true:=q
    subst q'
    obtain rfl:u=Value.bool true:=r'
    refine ⟨rfl,OldK.of_keep fun b o e=>?_,os,bare⟩
    cases q:H b with
    | none=>exact un.keep b o e q (by intro z;exact absurd (show b∈([]:List Addr) from z) (by simp)) (by simp)
    | some u=>
     rcases hO b with z|⟨ob,xs,z⟩
     ·rw [q] at z;cases z
     ·have z2:=un.frzs b ob _ z
      obtain ⟨e1,_⟩:=hok b _ z
      obtain ⟨e2,_⟩:=hok' b _ z2
      rw [e] at e1;cases e1
      exact e2
 cases hk:K.lookup a with
 | some o=>
  have e:=KX a o hk
  rw [ha] at e
  cases e
  refine core (fun _=>none) (fun _=>.inl rfl) (.inr ⟨_,vs.toArray,_,hk,rfl,rfl,rfl,by rw [List.size_toArray,lenV];exact hl,by simpa using rv⟩) (fun b u z=>by have z':(none:Option HO)=some u:=z;cases z') (fun b z=>absurd rfl z) fun z=>absurd rfl z
 | none=>
  refine core (fun b=>if b=a then some (.frz { cls:=.type "list",data:=.seq vs.toArray } (.lst (ns.map V.int))) else none) (fun b=>?_) (.inl (.inr ⟨{ cls:=.type "list",data:=.seq vs.toArray },if_pos rfl⟩)) (fun b u z=>?_) (fun b z=>?_) fun _=>hk
  ·by_cases hb:b=a
   ·exact .inr ⟨_,_,if_pos hb⟩
   ·exact .inl (if_neg hb)
  ·by_cases hb:b=a
   ·have z':=(if_pos hb).symm.trans z
    cases z'
    subst hb
    exact ⟨ha,by rw [List.length_map];exact hl,vs,_,rv,ha⟩
   ·have z':=(if_neg hb).symm.trans z
    cases z'
  ·by_cases hb:b=a
   ·exact hb
   ·exact absurd (if_neg hb) z
abbrev KOf {K:W.Frag} {h:Heap} (_:K.In h):W.Frag:=K
theorem zu {l:W.OpenLaw} {n:Nat} {q:Program} {XP:(Str->Option Value)->Heap->Prop} {YP:World->Heap->Prop} {d:DefRec} {K:Params->W.Frag} {CX:World->CXT} {sp:World->Sp}
 (hn:l.most=some n) (hn2:n<=sizeLine) (hdf:d.params.defaults=[]) (hr:Room k callerA)
 (hY:∀ (w:World) (h:Heap),YP w h->(K w.params).In h)
 (F:∀ (w:World) (mg:Str->Option Value) (fa:Addr) (h:Heap),(K w.params).In h->h.Ns mainGlobals mg->mg d.name=some (.ref fa)->
 ∃ fd:FuncData,(∀ (s:Shared) (u:Value),BindsTo s fd ⟨[u],[]⟩ [(x,u)])/\
 ∀ base:Heap,(K w.params).In base->base.Ns mainGlobals mg->FnOk l.prog w (K w.params) mg base (CX w) k fa fd [x] (sp w))
 (hsp:∀ (w:World) (H:Hp) (a:Addr) (ns:List Int),ns.length<=n->Ki H->SqL (K w.params) H a (ns.map V.int)->sp w [.ref a] H (fun v _=>v=.bl true) fun _ _ _=>False)
 (hCX:∀ (w:World) (H:Hp) (s:Shared) (e:Value) (s':Shared),CX w [] H s (fun _ _ _=>False) e s'->False) :
  W.WalkO q loose XP YP l.row.toRowW d [] (fun f vs=>PySem.call f vs):=by
 refine Att.attach_call hn hdf fun w s₀ s₁ mg mb fa o pm cd doc a vs ns G Y ho hd hcd hmg hobj hints hlen hg=>?_
 have KX:=hY w _ Y
 obtain ⟨fd,hb,hF⟩:=F w mg fa _ KX G.T.g hmg
 exact BS KX G.T.g G.T.b G.T.builtins G.T.nolimit hg hobj hints (Nat.le_trans hlen hn2) hr hF hb (fun H hO hS=>hsp w H a ns hlen hO hS) fun H e s'=>hCX w H s₁ e s'
end L2
/- THE LAST THEOREM (shape;LID,My.* are yours):
  My.Adr: a structure of the addresses that your layer names (classes,functions);My.Txt K t: a structure (Prop) of the equations over K;
  My.txt_mk:{K} {implicit addresses ..} (e1:nsIn K mainGlobals "law"=some (some (.ref f))) (e2:K.lookup f=some ⟨oc,od,.func (fnOf "law" "law" params body scope dV kV doc pm an cdv ct),sl⟩) (e3:codeIn K cdv "law"=true) .. : ∃ t,My.Txt K t
set_option maxRecDepth 100000 in
set_option maxHeartbeats 0 in
theorem PySem.Challenge.cw_LID_holds : PySem.Challenge.rw_LID.Holds := by
 w_on;o_law;k_head;(case hw=>w_witness2)
 k_fill
 refine L2.zu (l:=PySem.Challenge.rw_LID) (n:=63) (k:=40) (x:="script") (CX:=fun w=>..) (sp:=fun _=>My.sp_law) rfl (by decide) rfl ⟨rfl,by decide,by decide⟩ (fun w h Y=>PySem.W.kIn_of Y) ?F ?S ?C
 case F=>
  intro w mg fa h KX G hmg
  have T:∃ t,My.Txt (L2.KOf KX) t:=by
   dsimp only [L2.KOf]
   refine' My.txt_mk ?e1 ?e2 ?e3 ..
   (case e1=>PySem.W.k_is)
   (case e2=>PySem.W.k_is)
   ..
  obtain ⟨t,T⟩:=T
  have e0:=hmg.symm.trans (PySem.W.mg_of KX G T.law)
  cases e0
  exact ⟨_,fun s u=>.of_eq rfl,fun base kb nb=>My.law_fn T kb nb⟩
 case S=>exact fun w H a ns hl hO hS=>..
 case C=>exact ..
(the tactic k_is has no namespace: write k_is) -/
namespace L2
open PySem PySem.Spec PyProof.Rows
noncomputable def jl (s:Stmt):Arguments:=match s with
 | .FunctionDef _ a _ _ _ _ _ _ _ _=>a
 | _=>{ posonlyargs:=[],args:=[],vararg:=none,kwonlyargs:=[],kw_defaults:=[],kwarg:=none,defaults:=[] }
noncomputable def cI (s:Stmt):List Stmt:=match s with
 | .FunctionDef _ _ b _ _ _ _ _ _ _=>b
 | _=>[]
noncomputable def ao (s:Stmt):Scope:=match s with
 | .FunctionDef _ _ _ _ _ _ sc _ _ _=>sc
 | _=>{ kind:=.function,names:=[],isGenerator:=false,isCoroutine:=false }
structure Fun (K:PySem.W.Frag) (x qual:Str) (st:Stmt) (f:Addr) (fd:FuncData):Prop where
 ex:∃ (oc:Value) (od:Option Addr) (kV doc pm:Value) (an:Option Addr) (cdv ct:Value) (osl:Array (Option Value)),
  fd=PySem.W.fnOf x qual (jl st) (cI st) (ao st) .none kV doc pm an cdv ct/\K.lookup f=some ⟨oc,od,.func fd,osl⟩/\PySem.W.codeIn K cdv qual=true
 kp:PySem.W.keepIn K (.ref f)=true
section
variable {P:Program} {w:World} {K:PySem.W.Frag} {mg:Str->Option Value} {base:Heap}
theorem Fun.binds (F:Fun K x qual st f fd)
 (h:∀ (kV doc pm:Value) (an:Option Addr) (cdv ct:Value) (us:List Value),us.length=ps.length->bindArgs (PySem.W.fnOf x qual (jl st) (cI st) (ao st) .none kV doc pm an cdv ct) ⟨us,[]⟩=pure (ps.zip us)):Binds K fd ps []:=by
 obtain ⟨oc,od,kV,doc,pm,an,cdv,ct,osl,rfl,lk,hcd⟩:=F.ex
 exact .all (h kV doc pm an cdv ct)
theorem Hz {oc:Value} {an:Option Addr} {kV doc pm ct:Value} (l:K.lookup f=some ⟨oc,od,.func (PySem.W.fnOf x qual (jl st) (cI st) (ao st) .none kV doc pm an cdv ct),osl⟩)
 (c:PySem.W.codeIn K cdv qual=true) (k:PySem.W.keepIn K (.ref f)=true):Fun K x qual st f (PySem.W.fnOf x qual (jl st) (cI st) (ao st) .none kV doc pm an cdv ct):=⟨⟨oc,od,kV,doc,pm,an,cdv,ct,osl,rfl,l,c⟩,k⟩
end
def Same (H H':Hp):Prop:=∀ b o,H b=some o->H' b=some o
theorem Same.refl (H:Hp):Same H H:=fun _ _ h=>h
theorem Same.trans {H1 H2:Hp} (a:Same H H1) (b:Same H1 H2):Same H H2:=fun c o h=>b c o (a c o h)
theorem Same.free (e:Same H H') {l:Addr} (h:H' l=Option.none):H l=Option.none:=by
 cases q:H l with
 | none=>rfl
 | some o=>
  rw [e l o q] at h
  cases h
theorem Same.seq {K:PySem.W.Frag} (e:Same H H') (h:SqL K H a xs):SqL K H' a xs:=by
 rcases h with (h|⟨o,h⟩)|h
 ·exact .inl (.inl (e _ _ h))
 ·exact .inl (.inr ⟨o,e _ _ h⟩)
 ·exact .inr h
end L2
namespace L2
open PySem PySem.Spec PyProof.Rows
open PySem.MeetsSeq PySem.MeetsSeq2 PySem.MeetsSeq3
section
variable {prog:Program} {w:World} {A:Around} {E:Value->Shared->Prop} {s:Shared}
theorem Gs {b:Bool} {Q:Int->Shared->Prop} (h:Q (if b then 1 else 0) { s with toks:=s.toks+1 }):wpAny (model prog w) A (pyHash (.bool b)) Q E s:=by
 have t:s.TypeIs (.bool b) "bool":=rfl
 show wpAny _ _ (pyHashByItsType (.bool b)) Q E s
 have c:cRoomFor "hash" [.bool b]=pure ():=rfl
 unfold pyHashByItsType
 rw [c]
 refine wpAny_bind (wpAny_pure ?_)
 refine wpAny_bind (wpAny_specialOf t F.slot_bool_hash.lookup ?_)
 simp only [beq_builtin_none,Bool.false_eq_true,if_false]
 refine wpAny_bind (wpAny_specialOf t F.slot_bool_hash.lookup ?_)
 simp only [Option.isNone_some,Bool.false_eq_true,if_false]
 refine wpAny_bind (wpAny_callSpecialIfBoundUnlessNone?_slot t F.slot_bool_hash (wpAny_call_entry F.slot_bool_hash t F.entry_int_hash ?_ (F.args_int_hash_1 _)))
 unfold Builtin.«int.__hash__»
 cases b
 ·wp_walk
  exact ⟨.int 0 _,rfl,wpAny_pure h⟩
 ·wp_walk
  exact ⟨.int 1 _,rfl,wpAny_pure h⟩
noncomputable def tZ (prog:Program) (w:World):PySem.KeyKind prog w Bool where
 is:=fun k v=>match v with
  | .bool b=>b==k
  | _=>false
 hash:=fun k=>if k then 1 else 0
 inj:=fun v a b ha hb=>by
  cases v <;> simp_all
 byValue:=fun k v h=>by
  cases v <;> simp_all [carriedByValue]
 pyHash:=fun {A E s k v Q} hv h=>by
  cases v <;> simp_all
  exact Gs h
 eqBool:=fun {A E s a b u v Q} hu hv h=>by
  cases u <;> simp_all
  cases v <;> simp_all
  have e:decide (a=b)=(a==b):=by cases a <;> cases b <;> rfl
  rw [e] at h
  exact PySem.SeqAt.EqAt.bool_bool a b prog w E Q h
 «strs»:=fun k x t v h=>by simp at h
end
abbrev DX:=List (List Bool×Addr×V)
abbrev DU:=List (List Bool×Addr×Value)
noncomputable def sg (bs:List Bool):Int:=reduceHash (Builtin.Tuple.tupleHashOf (bs.map fun k=>if k then 1 else 0))
noncomputable abbrev DRel:DX->DU->Prop:=Paired fun p q=>p.1=q.1/\p.2.1=q.2.1/\RelV p.2.2 q.2.2
noncomputable def Fv (a:Addr) (o:Obj) (xs:DX):Heap->Prop:=fun h=>h.get? a=some o/\xs.length<=sizeLine/\(a==sysModules)=false/\o.ExactDict/\∃ us:DU,DRel xs us/\
 ∃ es ep,o.data=.dict es ep/\es.toList=us.map (fun x=>⟨sg x.1,.ref x.2.1,x.2.2⟩)/\(us.map (·.1)).Nodup
def DctO (a:Addr) (o:Obj) (xs:DX):HO:=.ext (Fv a o xs)
theorem DctO.ok {w:World} {xs:DX} (d:Fv a o xs h):ObjOk P w H h a (DctO a o xs):=
 ⟨d,⟨o,d.1⟩,fun _ _ p st=>⟨st o p.1,p.2⟩⟩
noncomputable def iw (K:PySem.W.Frag) (H:Hp) (xs:DX):Prop:=∀ x∈xs,SqT K H x.2.1 (x.1.map V.bl)
noncomputable def oS (xs:DX) (k:List Bool):Option V:=(xs.find? fun x=>decide (x.1=k)).map (·.2.2)
theorem wn {P:Program} {w:World}:∀ {bs:List Bool} {us:List Value},Vals (bs.map V.bl) us->ItemsAre (tZ P w) bs us
 | [],_,r=>by rw [List.map_nil] at r;cases r;exact .nil
 | b::bs,_,r=>by
  rw [List.map_cons] at r
  cases r with
  | cons h t=>
   obtain rfl:=(show _=Value.bool b from h)
   exact .cons (by simp [tZ]) (wn t)
theorem DRel.find {k:List Bool}:∀ {xs:DX} {us:DU},DRel xs us->RelO (oS xs k) ((atKey us k).map (·.2))
 | _,_,.nil=>trivial
 | x::xs,u::us,.cons ⟨h1,h2,h3⟩ t=>by
  have ih:=DRel.find (k:=k) t
  unfold oS atKey at ih ⊢
  by_cases e:x.1=k
  ·have e':u.1=k:=h1 ▸ e
   simp only [List.find?_cons,e,e',decide_true,Option.map_some]
   exact h3
  ·have e' : ¬ u.1=k:=fun z=>e (h1.trans z)
   simp only [List.find?_cons,e,e',decide_false]
   exact ih
theorem DRel.isSome {k:List Bool} {xs:DX} {us:DU} (r:DRel xs us):(oS xs k).isSome=(atKey us k).isSome:=by
 have h:=r.find (k:=k)
 revert h
 cases oS xs k <;> cases atKey us k <;> intro h <;> first|rfl|exact h.elim
section
variable {X:Cx} {pins:List (Addr×Obj)} {σ:St} {H:Hp} {s:Shared} {a q:Addr} {o:Obj} {xs:DX} {k:List Bool} {v:V} {A:Around} {E:Value->Shared->Prop}
theorem pH (I:Inv X pins σ H s) (h:SqT X.K H q (k.map V.bl)):(tupleKind (tZ X.prog X.w)).is s.heap k q:=by
 obtain ⟨its,rv,⟨o,h1,h2,n,h3⟩,_⟩:=I.tuple h
 exact ⟨o,its.toArray,n,h1,h2,h3,by simpa using wn rv⟩
theorem pv (I:Inv X pins σ H s) (e:H a=some (DctO a o xs)) (kk:iw X.K H xs):xs.length<=sizeLine/\(a==sysModules)=false/\∃ us:DU,DRel xs us/\s.heap.DictOfH (tupleKind (tZ X.prog X.w)) a us:=by
 obtain ⟨⟨h1,z1,z2,h2,us,r,es,ep,h3,h4,h5⟩,_⟩:=(show ObjOk X.prog X.w H s.heap a (DctO a o xs) from I.hok a _ e)
 refine ⟨z1,z2,us,r,o,es,ep,h1,h2,h3,h4,fun u hu=>?_,h5⟩
 have all:∀ {l:DX} {m:DU},DRel l m->(∀ x∈l,SqT X.K H x.2.1 (x.1.map V.bl))->∀ u∈m,(tupleKind (tZ X.prog X.w)).is s.heap u.1 u.2.1:=by
  intro l m q
  induction q with
  | nil=>intro _ u hu;exact nomatch hu
  | @cons x y ps qs hq t ih=>
   intro hl u hu
   rcases List.mem_cons.mp hu with z|hu
   ·subst z
    have:=pH I (hl x (List.mem_cons_self ..))
    rw [hq.1,hq.2.1] at this
    exact this
   ·exact ih (fun x hx=>hl x (List.mem_cons_of_mem _ hx)) u hu
 exact all r kk u hu
theorem Fj {Q:Value->Shared->Prop} (hu:A.units+1<cLine) (I:Inv X pins σ H s) (e:H a=some (DctO a o xs)) (kk:iw X.K H xs) (hk:SqT X.K H q (k.map V.bl)) (hv:oS xs k=some v) (h:∀ w' s',Inv X pins σ H s'->RelV v w'->Q w' s') :
  wpAny (model X.prog X.w) A (getItem (.ref a) (.ref q)) Q E s:=by
 obtain ⟨z,hd,us,rel,dd⟩:=pv I e kk
 obtain ⟨w',hw,rw'⟩:=RelO.some_of (v:=v) (o:=(atKey us k).map (·.2)) (by rw [<- hv];exact rel.find)
 obtain ⟨p,hp,hp2⟩:=Option.map_eq_some_iff.mp hw
 refine wpAny_getItem_heap (tupleKind_room_in1 hu) (pH I hk) dd hp ?_
 rw [hp2]
 exact h w' _ (I.tok _) rw'
theorem IY {Q:Value->Shared->Prop} (hu:A.units+1<cLine) (I:Inv X pins σ H s) (e:H a=some (DctO a o xs)) (kk:iw X.K H xs) (hk:SqT X.K H q (k.map V.bl)) (h:∀ s',Inv X pins σ H s'->Q (.bool (oS xs k).isSome) s') :
  wpAny (model X.prog X.w) A (compareOp .In (.ref q) (.ref a)) Q E s:=by
 obtain ⟨z,hd,us,rel,dd⟩:=pv I e kk
 refine wpAny_in_heap (tupleKind_room_in1 hu) (pH I hk) hd dd ?_
 rw [<- rel.isSome]
 exact h _ (I.tok _)
theorem AJ {Q:Value->Shared->Prop} (hu:A.units+1<cLine) (I:Inv X pins σ H s) (e:H a=some (DctO a o xs)) (kk:iw X.K H xs) (hk:SqT X.K H q (k.map V.bl)) (h:∀ s',Inv X pins σ H s'->Q (.bool (!(oS xs k).isSome)) s') :
  wpAny (model X.prog X.w) A (compareOp .NotIn (.ref q) (.ref a)) Q E s:=by
 obtain ⟨z,hd,us,rel,dd⟩:=pv I e kk
 refine wpAny_notIn_heap (tupleKind_room_in1 hu) (pH I hk) hd dd ?_
 rw [<- rel.isSome]
 exact h _ (I.tok _)
noncomputable def C7 (xs:DX) (k:List Bool) (q:Addr) (v:V):DX:=if (oS xs k).isSome then xs.map (fun x=>if x.1=k then (x.1,x.2.1,v) else x) else xs++[(k,q,v)]
theorem DRel.snoc:∀ {xs:DX} {us:DU} {x:List Bool×Addr×V} {u:List Bool×Addr×Value},DRel xs us->(x.1=u.1/\x.2.1=u.2.1/\RelV x.2.2 u.2.2)->DRel (xs++[x]) (us++[u])
 | _,_,_,_,.nil,h=>.cons h .nil
 | _,_,_,_,.cons a t,h=>.cons a (DRel.snoc t h)
theorem DRel.put {xs:DX} {us:DU} (r:DRel xs us) (q:Addr) (rv:RelV v u):DRel (C7 xs k q v) (storedH us k q u):=by
 have e:(oS xs k).isSome=(atKey us k).isSome:=r.isSome
 unfold C7 storedH
 rw [e]
 by_cases z:(atKey us k).isSome=true
 ·rw [if_pos z,if_pos z]
  clear e z
  induction r with
  | nil=>exact .nil
  | @cons x y ps qs h t ih=>
   obtain ⟨h1,h2,h3⟩:=h
   rw [List.map_cons,List.map_cons]
   refine .cons ?_ ih
   unfold putAt
   by_cases z:x.1=k
   ·rw [if_pos z,if_pos (h1 ▸ z)];exact ⟨h1,h2,rv⟩
   ·rw [if_neg z,if_neg (fun y=>z (h1.trans y))];exact ⟨h1,h2,h3⟩
 ·rw [if_neg z,if_neg z];exact DRel.snoc r ⟨rfl,rfl,rv⟩
theorem CB (xs:DX) (k:List Bool) (q:Addr) (v:V):(C7 xs k q v).length<=xs.length+1:=by
 unfold C7
 split <;> simp
theorem Fa {Q:Unit->Shared->Prop} (hu:A.units+1<cLine) (I:Inv X pins σ H s) (e:H a=some (DctO a o xs)) (kk:iw X.K H xs) (hk:SqT X.K H q (k.map V.bl)) (hl:xs.length<sizeLine) (rv:RelV v u) (h:∀ o' s',Inv X pins σ (upd H a (DctO a o' (C7 xs k q v))) s'->Q () s') :
  wpAny (model X.prog X.w) A (setItem (.ref a) (.ref q) u) Q E s:=by
 obtain ⟨z,hd,us,rel,dd⟩:=pv I e kk
 have hz:us.length<=sizeLine:=by rw [<- Paired.length rel];exact z
 refine wpAny_setItem_heap (hsz:=hz) (tupleKind_room_in1 hu) (pH I hk) dd fun h' dd' hs=>?_
 obtain ⟨o',es,ep,h1,h2,h3,h4,_,h5⟩:=dd'
 refine h o' _ (I.write (x:=a) (e:=a) (by rw [e];trivial) (.inl rfl) (fun b y hb z=>(hs.2 b hb).trans z) ⟨o',h1⟩ (DctO.ok ⟨h1,?_,hd,h2,_,rel.put q rv,es,ep,h3,h4,h5⟩))
 have:=CB xs k q v
 omega
end
end L2
namespace L2
open PySem PySem.Spec PyProof.Rows
theorem Inv.big0 (I:Inv X pins σ H s):(s.heap.objs.size==sysModules)=false:=by
 have h:mainGlobals<s.heap.objs.size:=(I.mod.glob.keeps I.bk).lt
 exact beq_eq_false_iff_ne.mpr fun e=>by
  rw [e] at h
  exact absurd h (by decide)
section
variable {X:Cx} {pos:Pos}
noncomputable def LK:TE:=fun _ H Q=>∀ p o,H p=none->Q (.ref p) (upd H p (DctO p o []))
theorem EK:PE X (.Dict [] [] pos) LK:=fun pins s σ H Q I h=>
 wpAny_Dict_empty ⟨.ref s.heap.objs.size,_,I.laid (t':=s.toks) (fun _ _ q=>Heap.get?_push_of_some _ q) (Nat.le_refl _) (DctO.ok ⟨Heap.get?_push_size _ rfl,Nat.zero_le _,I.big0,⟨rfl,rfl,rfl⟩,[],.nil,#[],0,rfl,rfl,List.nodup_nil⟩),rfl,h _ _ (I.hok.fresh (Nat.le_refl _))⟩
noncomputable def LF (tk tv:TE) (K:PySem.W.Frag):TE:=fun σ H Q=>∀ p o,H p=none->tk σ (upd H p (DctO p o [])) fun x H1=>tv σ H1 fun y H2=>H2 p=some (DctO p o [])/\∃ q bs,x=.ref q/\SqT K H2 q (bs.map V.bl)/\∀ o',Q (.ref p) (upd H2 p (DctO p o' [(bs,q,y)]))
theorem FZ {k v:Expr} {tk tv:TE} (hu:X.A.units+1<cLine) (hk:PE X k tk) (hv:PE X v tv):PE X (.Dict [some k] [v] pos) (LF tk tv X.K):=fun pins s σ H Q I h=>by
 have hn:=I.hok.fresh (Nat.le_refl s.heap.objs.size)
 have I1:Inv X pins σ (upd H s.heap.objs.size (DctO s.heap.objs.size { cls:=.type "dict",data:=.dict #[] } [])) { s with heap:=s.heap.push { cls:=.type "dict",data:=.dict #[] } }:=I.laid (t':=s.toks) (fun _ _ q=>Heap.get?_push_of_some _ q) (Nat.le_refl _) (DctO.ok ⟨Heap.get?_push_size _ rfl,Nat.zero_le _,I.big0,⟨rfl,rfl,rfl⟩,[],.nil,#[],0,rfl,rfl,List.nodup_nil⟩)
 refine wpAny_Dict_any rfl rfl (by simp) (by show 1<=15;decide) (pairTrees_cons_walk (thn (hk pins _ σ _ _ I1 (h _ _ hn)) fun u s1 ⟨x,H1,I2,rx,q1⟩=>thn (hv pins s1 σ H1 _ I2 q1) fun w s2 ⟨y,H2,I3,ry,hp,q,bs,ex,hq,q2⟩=>pairTrees_nil_walk ?_))
 subst ex
 cases rx
 obtain ⟨z,hd,us,rel,dd⟩:=pv I3 hp (fun _ hx=>nomatch hx)
 cases rel
 unfold storeAll
 rw [List.forIn_cons]
 refine wpAny_bind (wpAny_bind (wpAny_dictSet_heap (hsz:=Nat.zero_le _) (show X.A.units<cLine by omega) (pH I3 hq) dd fun h' dd' hs=>?_))
 refine wpAny_pure ?_
 show wpAny _ _ (forIn [] PUnit.unit _) _ _ _
 rw [List.forIn_nil]
 obtain ⟨o,es,ep,h1,h2,h3,h4,_,h5⟩:=dd'
 refine wpAny_pure ⟨.ref _,_,?_,rfl,q2 o⟩
 exact I3.write (x:=s.heap.objs.size) (e:=s.heap.objs.size) (by rw [hp];trivial) (.inl rfl) (fun b y hb z=>(hs.2 b hb).trans z) ⟨o,h1⟩ (DctO.ok ⟨h1,by show 1<=sizeLine;decide,hd,h2,_,.cons ⟨rfl,rfl,ry⟩ .nil,es,ep,h3,h4,h5⟩)
end
theorem Dk:∀ a b c d:Bool,sg [a,b]=sg [c,d]->[a,b]=[c,d]:=by decide +kernel
theorem D6 {α:Type} {f:α->Int} {c:Int}:∀ {l:List α},(l.map f).Nodup->(l.filter fun x=>f x==c).length<=1
 | [],_=>by simp
 | a::l,h=>by
  rw [List.map_cons,List.nodup_cons] at h
  by_cases e:f a=c
  ·have z:(l.filter fun x=>f x==c)=[]:=List.filter_eq_nil_iff.2 fun x hx q=>h.1 (List.mem_map.2 ⟨x,hx,by rw [e];exact eq_of_beq q⟩)
   rw [List.filter_cons_of_pos (by simp [e]),z];simp
  ·rw [List.filter_cons_of_neg (by simp [e])];exact D6 h.2
def Kw (xs:DX):Prop:=∀ x∈xs,∃ a b,x.1=[a,b]
theorem uc:∀ {us:DU},(∀ u∈us,∃ a b,u.1=[a,b])->(us.map (·.1)).Nodup->(us.map fun u=>sg u.1).Nodup
 | [],_,_=>List.nodup_nil
 | u::us,h2,hn=>by
  rw [List.map_cons,List.nodup_cons] at hn ⊢
  refine ⟨fun hm=>hn.1 ?_,uc (fun x hx=>h2 x (List.mem_cons_of_mem _ hx)) hn.2⟩
  obtain ⟨y,hy,e⟩:=List.mem_map.1 hm
  obtain ⟨a,b,e1⟩:=h2 u (List.mem_cons_self ..)
  obtain ⟨c,d,e2⟩:=h2 y (List.mem_cons_of_mem _ hy)
  rw [e1,e2] at e
  exact List.mem_map.2 ⟨y,hy,by rw [e1,e2];exact Dk _ _ _ _ e⟩
theorem DRel.twos:∀ {xs:DX} {us:DU},DRel xs us->Kw xs->∀ u∈us,∃ a b,u.1=[a,b]
 | _,_,.nil,_,u,hu=>nomatch hu
 | x::xs,y::us,.cons h t,h2,u,hu=>by
  rcases List.mem_cons.1 hu with rfl|hu
  ·obtain ⟨a,b,e⟩:=h2 x (List.mem_cons_self ..)
   exact ⟨a,b,h.1 ▸ e⟩
  ·exact DRel.twos t (fun z hz=>h2 z (List.mem_cons_of_mem _ hz)) u hu
section
variable {prog:Program} {w:World} {A:Around} {E:Value->Shared->Prop} {s:Shared}
theorem yo {d o:Addr} {od oo:Obj} {es:Array DictEntry} {e0 ep:Nat} {id:String} {Q:Unit->Shared->Prop} (hne:(d==o)=false) (hos:(o==sysModules)=false) (hd:s.heap.get? d=some od) (hdd:od.data=.dict #[] e0) (ho:s.heap.get? o=some oo) (hdo:oo.data=.dict es ep)
 (hz:es.size<=sizeLine) (h0:0<es.size) (hr:∀ e∈es.toList,∃ q,e.key=.ref q/\s.TypeIs (.ref q) "tuple") (hf:∀ e∈es.toList,(es.filter (·.hash==e.hash)).size<=1)
 (h:Q () { s with heap:=s.heap.update d (Obj.mapDictKeys fun _=>es) }):wpAny (model prog w) A (Builtin.Dict.mergeDict id d o) Q E s:=by
 have few:(decide (es.size<=8) && es.all fun e=>(keyPart e.key).isSome)=false:=by
  have hx:es[0]∈es.toList:=by simp
  obtain ⟨q,e,_⟩:=hr _ hx
  have:(es.all fun e=>(keyPart e.key).isSome)=false:=by
   rw [Array.all_eq_false]
   exact ⟨0,h0,by rw [e];exact Bool.false_ne_true⟩
  rw [this,Bool.and_false]
 unfold Builtin.Dict.mergeDict Builtin.Dict.showsAll
 rw [hne,hos]
 simp only [Bool.false_eq_true,if_false]
 refine wpAny_bind (wpAny_pure (wpAny_bind (wpAny_dictEntries ho hdo ?_)))
 rw [few]
 simp only [Bool.not_false,if_true]
 refine wpAny_bind (wpAny_dictEntries hd hdd ?_)
 rw [if_pos (show (#[]:Array DictEntry).isEmpty=true from rfl)]
 unfold Builtin.Dict.entriesForEmpty
 refine wpAny_bind (wpAny_bind (wpAny_dictEntries ho hdo (wpAny_bind ?_)))
 rw [<- Array.forIn_toList]
 refine wpAny_forIn_list _ (fun cJ _ z=>z=s/\∀ e∈cJ,e∈es.toList) _ (fun e cJ _ z hz'=>?_) (fun _ z hz'=>?_) _ _ ⟨rfl,fun e he=>he⟩
 ·obtain ⟨rfl,he⟩:=hz'
  obtain ⟨q,ek,ty⟩:=hr e (he e (List.mem_cons_self ..))
  unfold Builtin.Dict.quietEq
  rw [ek]
  refine wpAny_bind (wpAny_bind (wpAny_specialOf ty PySem.F.slot_tuple_eq.lookup (wpAny_pure ?_)))
  have no:(some (Value.builtin "tuple.__eq__")==some (Value.builtin "object.__eq__"))=false:=by decide
  rw [no]
  simp only [Bool.not_false,if_true]
  rw [if_neg (Nat.not_lt.2 (hf e (he e (List.mem_cons_self ..))))]
  exact wpAny_pure ⟨rfl,fun x hx=>he x (List.mem_cons_of_mem _ hx)⟩
 ·obtain ⟨rfl,_⟩:=hz'
  refine wpAny_pure ?_
  have ne:(!es.isEmpty)=true:=by simp;intro z;rw [z] at h0;exact absurd h0 (by simp)
  rw [if_pos ne]
  exact wpAny_bind (wpAny_updateDictKeysTo hd hdd (wpAny_pure h) (by omega))
end
theorem DRel.refs (I:Inv X pins σ H s):∀ {xs:DX} {us:DU},DRel xs us->iw X.K H xs->∀ u∈us,s.TypeIs (.ref u.2.1) "tuple"
 | _,_,.nil,_,u,hu=>nomatch hu
 | x::xs,y::us,.cons h t,kk,u,hu=>by
  rcases List.mem_cons.1 hu with rfl|hu
  ·obtain ⟨its,rv,⟨o,h1,h2,_⟩,_⟩:=I.tuple (kk x (List.mem_cons_self ..))
   exact ⟨o,h.2.1 ▸ h1,h2⟩
  ·exact DRel.refs I t (fun z hz=>kk z (List.mem_cons_of_mem _ hz)) u hu
theorem rV:nJ X (.type "dict") (fun xs H Q=>∃ a o ys,xs=[.ref a]/\H a=some (DctO a o ys)/\iw X.K H ys/\Kw ys/\ys≠[]/\∀ p o',H p=none->Q (.ref p) (upd H p (DctO p o' ys))):=by
 intro pins s σ H xs vs Q I r h
 obtain ⟨a,o0,ys,rfl,e,kk,tw,ne,q⟩:=h
 obtain ⟨u,rfl,rx⟩:=CC r
 cases rx
 obtain ⟨z,hd,us,rel,dd⟩:=pv I e kk
 obtain ⟨o,es,ep,h1,h2,h3,h4,h5,h6⟩:=id dd
 have tn:∀ h:Heap,h.get? s.heap.objs.size=some { cls:=.type "dict",data:=.dict #[] }->Shared.TypeIs { s with heap:=h } (.ref s.heap.objs.size) "dict":=fun h e=>⟨_,e,rfl⟩
 have hlt:=Heap.lt_size h1
 have ho:(s.heap.push { cls:=.type "dict",data:=.dict #[] }).get? a=some o:=Heap.get?_push_of_some _ h1
 have hn:(s.heap.push { cls:=.type "dict",data:=.dict #[] }).get? s.heap.objs.size=some { cls:=.type "dict",data:=.dict #[] }:=Heap.get?_push_size _ rfl
 have ta:Shared.TypeIs { s with heap:=s.heap.push { cls:=.type "dict",data:=.dict #[] } } (.ref a) "dict":=⟨o,ho,h2.1⟩
 have ez:es.size=us.length:=by rw [<- Array.length_toList,h4,List.length_map]
 have uz:us.length=ys.length:=(Paired.length rel).symm
 refine callType_codes (Q₁:=fun v t=>v=.ref s.heap.objs.size/\t={ s with heap:=s.heap.push { cls:=.type "dict",data:=.dict #[] } }) PySem.F.kt_called_dict (PySem.F.kt_typeCall_dict_1 _) PySem.F.entry_dict_init (kt_code_dict_new _ ⟨rfl,rfl⟩) fun v t hv=>?_
 obtain ⟨rfl,rfl⟩:=hv
 refine ⟨tn _ hn,PySem.F.args_dict_init_2 _ _,?_⟩
 have fin:∀ h',h'=(s.heap.push { cls:=.type "dict",data:=.dict #[] }).update s.heap.objs.size (Obj.mapDictKeys fun _=>es)->EP X pins σ Q (.ref s.heap.objs.size) { s with heap:=h' }:=fun h' eh=>by
  subst eh
  refine ⟨.ref s.heap.objs.size,_,I.laid (t':=s.toks) (fun b y hb=>?_) (Nat.le_refl _) (DctO.ok ⟨Heap.get?_update_self _ hn rfl,z,I.big0,⟨rfl,rfl,rfl⟩,us,rel,es,_,rfl,h4,h6⟩),rfl,q _ _ (I.hok.fresh (Nat.le_refl _))⟩
  exact (Heap.get?_update_ne _ _ _ _ (Nat.ne_of_lt (Heap.lt_size hb))).trans (Heap.get?_push_of_some _ hb)
 have mg:∀ {id:String} {Q':Unit->Shared->Prop} {A':Around} {E':Value->Shared->Prop},Q' () { s with heap:=(s.heap.push { cls:=.type "dict",data:=.dict #[] }).update s.heap.objs.size (Obj.mapDictKeys fun _=>es) }->wpAny (model X.prog X.w) A' (Builtin.Dict.mergeDict id s.heap.objs.size a) Q' E' { s with heap:=s.heap.push { cls:=.type "dict",data:=.dict #[] } }:=fun hq=>
  yo (beq_eq_false_iff_ne.2 (Nat.ne_of_gt hlt)) hd hn rfl ho h3 (by omega) (by rw [ez,uz];exact List.length_pos_iff.2 ne) (fun x hx=>by
   rw [h4] at hx
   obtain ⟨u,hu,rfl⟩:=List.mem_map.1 hx
   obtain ⟨ob,e1,e2⟩:=DRel.refs I rel kk u hu
   exact ⟨u.2.1,rfl,ob,Heap.get?_push_of_some _ e1,e2⟩) (fun x hx=>by
   have hh:=D6 (c:=x.hash) (uc (rel.twos tw) h6)
   rw [<- Array.length_toList,Array.toList_filter,h4,List.filter_map,List.length_map]
   exact hh) hq
 unfold Builtin.«dict.__init__» Builtin.Dict.selfAndRest
 have sub:=PySem.F.kt_sub_dict
 wp_walk using wpAny_notOrdered_dict (tn _ hn),wpAny_specialOf ta PySem.F.slot_dict_iter.lookup,mg
 exact ⟨rfl,fin _ rfl⟩
section
variable {prog:Program} {w:World} {A:Around} {E:Value->Shared->Prop} {s:Shared} {d it:Addr} {o:Obj} {es:Array DictEntry} {ep:Nat}
theorem yf {Q:Value->Shared->Prop} (hs:(d==sysModules)=false) (ho:s.heap.get? d=some o) (hx:o.ExactDict) (h:Q (.ref s.heap.objs.size) { s with heap:=s.heap.push { cls:=.type "dict_items",data:=.fields #[.ref d] } }) :
  wpAny (model prog w) A (call (.builtin "dict.items") [.ref d]) Q E s:=by
 have t:s.TypeIs (.ref d) "dict":=⟨o,ho,hx.1⟩
 refine wpAny_call_entry PySem.F.slot_dict_items t PySem.F.entry_dict_items ?_ (PySem.F.args_dict_items_1 _)
 unfold Builtin.«dict.items» Builtin.Dict.noArgs Builtin.Dict.showsAll
 wp_walk using wpAny_notOrdered_dict t
 exact ⟨_,rfl,h⟩
theorem yc {v:Addr} {Q:Value->Shared->Prop} (hv:s.heap.get? v=some { cls:=.type "dict_items",data:=.fields #[.ref d] }) (ho:s.heap.get? d=some o) (hd:o.data=.dict es ep)
 (h:Q (.ref s.heap.objs.size) { s with heap:=s.heap.push { cls:=.type "dict_itemiterator",data:=.fields #[.none,.bool false,.ref d,.int 0 0,.int es.size 0,.int ep 0,.none,.none] } }) :
  wpAny (model prog w) A (pyIter (.ref v)) Q E s:=by
 have t:s.TypeIs (.ref v) "dict_items":=⟨_,hv,rfl⟩
 refine wpAny_pyIter_slot t PySem.F.slot_dict_items_iter (wpAny_call_entry PySem.F.slot_dict_items_iter t PySem.F.entry_dict_items_iter ?_ (PySem.F.args_dict_items_iter_1 _))
 unfold Builtin.«dict_items.__iter__» Builtin.Dict_items.dictOf Builtin.Dict_items.newIterator
 wp_walk using wpAny_field hv rfl (x:=.ref d) rfl,wpAny_dictEntries ho hd,wpAny_dictEpoch ho hd
 have own:Builtin.Dict_items.ownsTuple "dict_itemiterator"=true:=by decide
 refine ⟨_,rfl,"dict_itemiterator",_,⟨_,Heap.get?_push_size _ rfl,rfl⟩,PySem.F.slot_dict_itemiterator_next.lookup,?_⟩
 simpa [own,rawInt,Builtin.Dict_items.ownedTupleFields] using h
noncomputable def Nn (it d:Addr) (n ep i:Nat) (h:Heap):Prop:=∃ x y,IsItemIter h it d i n ep x y
theorem xP {Q:Option Value->Shared->Prop} {x y:Value} (hi:IsItemIter s.heap it d i es.size ep x y) (hne:d≠it) (ho:s.heap.get? d=some o) (hd:o.data=.dict es ep) (hl:i<es.size)
 (h:∀ h',IsItemIterOut h' it d (i+1) es.size ep es[i].key es[i].val s.heap.objs.size->h'.get? s.heap.objs.size=some { cls:=.type "tuple",data:=.seq #[es[i].key,es[i].val] }->(∀ b ob,b≠it->s.heap.get? b=some ob->h'.get? b=some ob)->Q (some (.ref s.heap.objs.size)) { s with heap:=h' }) :
  wpAny (model prog w) A (pyNext (.ref it)) Q E s:=by
 have t:s.TypeIs (.ref it) "dict_itemiterator":=⟨_,hi,rfl⟩
 have own:Builtin.Dict_items.ownsTuple "dict_itemiterator"=true:=by decide
 unfold pyNext
 refine wpAny_bind (wpAny_attempt (wpAny_callSpecial?_slot (name:=Str.ofString "__next__") t PySem.F.slot_dict_itemiterator_next (wpAny_call_entry PySem.F.slot_dict_itemiterator_next t PySem.F.entry_dict_itemiterator_next ?_ (PySem.F.args_dict_itemiterator_next_1 _))))
 unfold Builtin.«dict_itemiterator.__next__»
 wp_walk using wpAny_typeNameOfWhole_itemiter t,wpAny_fieldsOf hi rfl,wpAny_dictEntries ho hd,wpAny_dictEpoch ho hd
 have i0:(if (i:Int)<0 then none else es[(i:Int).toNat]?)=some es[i]:=by
  rw [if_neg (by omega),Int.toNat_natCast,Array.getElem?_eq_getElem hl]
 rw [i0]
 have e0:((i+1:Nat):Int)=(i:Int)+1:=by omega
 refine wpAny_bind (wpAny_bind (wpAny_typeNameOfWhole_itemiter t (wpAny_pure (wpAny_bind (wpAny_isOneOf_itemiter t ?_)))))
 show wpAny _ _ (setField (.ref it) 3 (rawInt ((i:Int)+1))>>=_) _ _ s
 refine wpAny_bind (wpAny_setField_rec hi (by simp) fun h1 e1 s1=>wpAny_bind (wpAny_holding ?_))
 have e1:IsItemIter h1 it d (i+1) es.size ep x y:=by unfold IsItemIter;rw [e0];simpa [rawInt] using e1
 have t1:Shared.TypeIs { s with heap:=h1 } (.ref it) "dict_itemiterator":=⟨_,e1,rfl⟩
 refine wpAny_bind (wpAny_isOneOf_itemiter t1 (wpAny_bind (wpAny_isOneOf_itemiter t1 ?_)))
 show wpAny _ _ (Builtin.Dict_items.pairFromOwner (.ref it) 6 es[i].key es[i].val) _ _ { s with heap:=h1 }
 unfold Builtin.Dict_items.pairFromOwner
 refine wpAny_bind (wpAny_newTuple ?_)
 have e2:IsItemIter (h1.push { cls:=.type "tuple",data:=.seq #[es[i].key,es[i].val] }) it d (i+1) es.size ep x y:=Heap.get?_push_of_some _ e1
 have lt:it<s.heap.objs.size:=Heap.lt_size hi
 have z1:h1.objs.size=s.heap.objs.size:=s1.1
 have g2:(h1.push { cls:=.type "tuple",data:=.seq #[es[i].key,es[i].val] }).get? s.heap.objs.size=some { cls:=.type "tuple",data:=.seq #[es[i].key,es[i].val] }:=by rw [<- z1];exact Heap.get?_push_size _ rfl
 have k2:∀ b ob,b≠it->s.heap.get? b=some ob->(h1.push { cls:=.type "tuple",data:=.seq #[es[i].key,es[i].val] }).get? b=some ob:=fun b ob n q=>Heap.get?_push_of_some _ (s1.extBut b ob n q)
 rw [show ({ s with heap:=h1 }:Shared).heap.objs.size=s.heap.objs.size from z1]
 generalize h1.push { cls:=.type "tuple",data:=.seq #[es[i].key,es[i].val] }=h2 at e2 g2 k2 ⊢
 clear s1 e1 t1 z1 hi t
 unfold Builtin.Dict_items.ownedTupleIsFree
 have gt:=Nat.ne_of_gt lt
 refine wpAny_bind (wpAny_bind (wpAny_field e2 rfl (x:=.none) rfl (wpAny_pure ?_)))
 rw [if_pos rfl]
 refine wpAny_bind (wpAny_field e2 rfl (x:=x) rfl (wpAny_bind (wpAny_field e2 rfl (x:=y) rfl (wpAny_bind (wpAny_setField_rec e2 (by simp) fun h3 (e3:IsItemIter h3 it d (i+1) es.size ep es[i].key y) s3=>?_)))))
 refine wpAny_bind (wpAny_setField_rec e3 (by simp) fun h4 (e4:IsItemIter h4 it d (i+1) es.size ep es[i].key es[i].val) s4=>wpAny_bind (wpAny_setField_rec e4 (by simp) fun h5 (e5:IsItemIterOut h5 it d (i+1) es.size ep es[i].key es[i].val s.heap.objs.size) s5=>?_))
 refine wpAny_bind (wpAny_setField_rec e5 (by simp) fun h6 (e6:IsItemIterOut h6 it d (i+1) es.size ep es[i].key es[i].val s.heap.objs.size) s6=>wpAny_bind (wpAny_letGo (wpAny_pure (wpAny_pure ⟨_,rfl,wpAny_pure (h h6 e6 ?_ ?_)⟩))))
 ·exact s6.extBut _ _ gt (s5.extBut _ _ gt (s4.extBut _ _ gt (s3.extBut _ _ gt g2)))
 ·exact fun b ob n q=>s6.extBut b ob n (s5.extBut b ob n (s4.extBut b ob n (s3.extBut b ob n (k2 b ob n q))))
theorem Ai {Q:Option Value->Shared->Prop} {x y:Value} (hh:A.handled=none) (hi:IsItemIter s.heap it d i es.size ep x y) (hne:d≠it) (ho:s.heap.get? d=some o) (hd:o.data=.dict es ep) (hl:es.size<=i)
 (h:∀ h',(∀ b ob,b≠it->s.heap.get? b=some ob->h'.get? b=some ob)->Q none { s with heap:=h' }):wpAny (model prog w) A (pyNext (.ref it)) Q E s:=by
 have t:s.TypeIs (.ref it) "dict_itemiterator":=⟨_,hi,rfl⟩
 unfold pyNext
 refine wpAny_bind (wpAny_attempt (wpAny_callSpecial?_slot (name:=Str.ofString "__next__") t PySem.F.slot_dict_itemiterator_next (wpAny_call_entry PySem.F.slot_dict_itemiterator_next t PySem.F.entry_dict_itemiterator_next ?_ (PySem.F.args_dict_itemiterator_next_1 _))))
 unfold Builtin.«dict_itemiterator.__next__»
 wp_walk using wpAny_typeNameOfWhole_itemiter t,wpAny_fieldsOf hi rfl,wpAny_dictEntries ho hd,wpAny_dictEpoch ho hd
 have i0:(if (i:Int)<0 then none else es[(i:Int).toNat]?)=none:=by
  rw [if_neg (by omega),Int.toNat_natCast,Array.getElem?_eq_none hl]
 rw [i0]
 refine wpAny_bind (wpAny_bind (wpAny_typeNameOfWhole_itemiter t (wpAny_pure ?_)))
 show wpAny _ _ (setField (.ref it) 2 .none>>=_) _ _ s
 refine wpAny_bind (wpAny_setField_rec hi (by simp) fun h1 e1 s1=>?_)
 have sub:=isSubtype_stop
 have hh1:A.in1.handled=none:=hh
 clear i0 e1 t hi
 simp only [newExc,raiseNew]
 wp_walk
 exact h _ fun b ob n q=>Heap.get?_push_of_some _ (Heap.get?_push_of_some _ (s1.extBut b ob n q))
end
theorem Ci {ob:Obj} (hb:b<h.objs.size) (q:(h.push ob).get? b=some o):h.get? b=some o:=by
 unfold Heap.get? Heap.push at *
 simpa [Array.getElem?_push,Nat.ne_of_lt hb] using q
noncomputable def Itd (a:Addr) (o:Obj) (xs:DX):It:=
 ⟨fun i H=>H a=some (DctO a o xs)/\i<xs.length,fun i H x H'=>∃ p y,x=.ref p/\H p=none/\xs[i]?=some y/\H'=upd H p (.tup [.ref y.2.1,y.2.2]),fun i H=>H a=some (DctO a o xs)/\xs.length<=i⟩
theorem DRel.get:∀ {xs:DX} {us:DU} {i:Nat} {x:List Bool×Addr×V},DRel xs us->xs[i]?=some x->∃ u,us[i]?=some u/\x.2.1=u.2.1/\RelV x.2.2 u.2.2
 | _,_,i,_,.nil,e=>by simp at e
 | _,_,0,_,.cons h _,e=>by simp at e;subst e;exact ⟨_,rfl,h.2⟩
 | _,_,i+1,_,.cons _ t,e=>DRel.get (i:=i) t (by simpa using e)
theorem nB {xs:DX} (I:Inv X pins σ H s) (e:H a=some (DctO a o xs)):Fv a o xs s.heap:=
 (show ObjOk X.prog X.w H s.heap a (DctO a o xs) from I.hok a _ e).1
theorem yd {w:World} {K:PySem.W.Frag} {tp:Pos} (a it:Addr) (o:Obj) (xs:DX) {es:Array DictEntry} {ep:Nat} (hd:o.data=.dict es ep) (hz:es.size=xs.length) :
  Turn P w K (.Tuple elts kt tp) (Itd a o xs) [it] it (fun i h=>Nn it a es.size ep i h) where
 mem:=by simp
 obj:=fun i h st b hb=>by
  obtain ⟨x,y,q⟩:=st
  obtain rfl:b=it:=by simpa using hb
  exact ⟨_,q,fun v z=>by cases z⟩
 keep:=fun i h h' ⟨x,y,q⟩ k=>⟨x,y,k it (by simp) _ q⟩
 item:=by
  intro X hP hw hK hc i pins s σ H E I hf st hg
  subst hP hw hK
  obtain ⟨x,y,hi⟩:=st
  obtain ⟨e,hl⟩:=hg
  obtain ⟨h1,z1,z2,h2,us,r,es',ep',h3,h4,h5⟩:=nB I e
  rw [hd] at h3
  cases h3
  obtain ⟨f0,f1,f2,f3,f4,f5⟩:=hf it (by simp)
  have ne:a≠it:=fun z=>by rw [z,f0] at e;cases e
  have hlt:i<es.size:=by omega
  obtain ⟨u,hu,k1,k2⟩:=r.get (List.getElem?_eq_getElem hl)
  have ee:es[i]=⟨sg u.1,.ref u.2.1,u.2.2⟩:=by
   have q:es.toList[i]?=some es[i]:=by simp [hlt]
   rw [h4,List.getElem?_map,hu] at q
   exact (Option.some.inj q).symm
  have hp:H s.heap.objs.size=none:=I.hok.fresh (Nat.le_refl _)
  have npt:s.heap.objs.size≠it:=Nat.ne_of_gt (Heap.lt_size hi)
  refine xP hi ne h1 hd hlt fun h6 o6 g6 k6=>⟨_,rfl,wpAny_letOwnedTupleGo_items o6 fun h7 o7 s7=>?_⟩
  have Ia:Inv X pins σ (upd H s.heap.objs.size (.tup [.ref xs[i].2.1,xs[i].2.2])) { s with heap:=s.heap.push { cls:=.type "tuple",data:=.seq #[es[i].key,es[i].val] } }:=by
   refine I.laid (t':=s.toks) (fun b ob q=>Heap.get?_push_of_some _ q) (Nat.le_refl _) ⟨by show 2<=sizeLine;decide,[es[i].key,es[i].val],.cons ?_ (.cons ?_ .nil),IsTup.new _ _⟩
   ·rw [ee,k1];rfl
   ·rw [ee];exact k2
  have Ib:Inv X pins σ (upd H s.heap.objs.size (.tup [.ref xs[i].2.1,xs[i].2.2])) { s with heap:=h7 }:=by
   refine Inv.turned (s:={ s with heap:=s.heap.push { cls:=.type "tuple",data:=.seq #[es[i].key,es[i].val] } }) (h':=h7) (t':=s.toks) (it:=it) Ia (fun b ob n q=>?_) (by rw [aU (Ne.symm npt)];exact f0) f1 f3 f4 f5
   refine (s7.2 b n).trans ?_
   by_cases z:b=s.heap.objs.size
   ·subst z
    have q':=Heap.get?_push_size s.heap (o:={ cls:=.type "tuple",data:=.seq #[es[i].key,es[i].val] }) rfl
    exact (g6.trans q'.symm).trans q
   ·refine k6 b ob n ?_
    have q:(s.heap.push { cls:=.type "tuple",data:=.seq #[es[i].key,es[i].val] }).get? b=some ob:=q
    rcases Nat.lt_or_ge b s.heap.objs.size with hb|hb
    ·exact Ci hb q
    ·have hlt:=Heap.lt_size q
     rw [Heap.size_push] at hlt
     exact absurd (Nat.le_antisymm (Nat.le_of_lt_succ hlt) hb) z
  exact ⟨.ref s.heap.objs.size,_,Ib,rfl,⟨_,_,rfl,hp,List.getElem?_eq_getElem hl,rfl⟩,⟨_,_,o7⟩,fun b hb=>by
   obtain rfl:b=it:=by simpa using hb
   rw [aU (Ne.symm npt)];exact f0⟩
 done:=by
  intro X hP hw hK hc i pins s σ H E I hf st hg
  subst hP hw hK
  obtain ⟨x,y,hi⟩:=st
  obtain ⟨e,hl⟩:=hg
  obtain ⟨h1,_⟩:=nB I e
  obtain ⟨f0,f1,f2,f3,f4,f5⟩:=hf it (by simp)
  have ne:a≠it:=fun z=>by rw [z,f0] at e;cases e
  exact Ai (I.ok.hd hc) hi ne h1 hd (by omega) fun h' k=>⟨rfl,I.turned (t':=s.toks) k f0 f1 f3 f4 f5⟩
 self:=fun A i s Q E ⟨x,y,q⟩ h=>PySem.W.kcp_self q h
theorem Dn {o:Expr} {t:TE} {tp ap cp:Pos} (ho:PE X o t) (hbase:attributeBase o "items" X.env (eval o X.env)=eval o X.env:=by rfl) (hline:(ap.endLine==cp.line)=true:=by rfl) :
  PI X (.Tuple elts kt tp) (.Call (.Attribute o "items" ap) [] [] cp) (fun σ H R=>t σ H fun x H1=>∃ a ob xs,x=.ref a/\H1 a=some (DctO a ob xs)/\R (Itd a ob xs) H1):=fun pins s σ H R I h=>by
 refine wpAny_Call_method0_late hbase hline (thn (ho pins s σ H _ I h) fun v s1 ⟨x,H1,I1,r1,a,ob,xs,ex,e,hR⟩=>?_)
 subst ex
 cases r1
 obtain ⟨h1,z1,z2,h2,us,r,es,ep,h3,h4,h5⟩:=nB I1 e
 have hz:es.size=xs.length:=by rw [<- Array.length_toList,h4,List.length_map];exact (Paired.length r).symm
 refine ⟨"dict","dict.items",PySem.F.plainAttrs_dict,PySem.F.slot_dict_items,PySem.F.type_dict_items,⟨ob,h1,h2.1⟩,fun b eb=>?_,Calls.callWith_builtin rfl (PySem.evalArgs_none (yf z2 h1 h2 ?_))⟩
 ·cases eb;exact ⟨ob,h1,h2.2.1⟩
 have I2:Inv X pins σ H1 { s1 with heap:=s1.heap.push { cls:=.type "dict_items",data:=.fields #[.ref a] } }:=I1.kept (t':=s1.toks) fun b q e=>Heap.get?_push_of_some _ e
 refine yc (Heap.get?_push_size _ rfl) (Heap.get?_push_of_some _ h1) h3 ?_
 refine ⟨_,[_],_,_,H1,rfl,I2.kept (t':=s1.toks) fun b q e=>Heap.get?_push_of_some _ e,yd a _ ob xs h3 hz,⟨_,_,Heap.get?_push_size _ rfl⟩,fun b hb=>?_,hR⟩
 obtain rfl:=List.mem_singleton.1 hb
 exact I2.fpOk (Nat.le_refl _) (I2.hok.fresh (Nat.le_refl _))
end L2
set_option maxRecDepth 100000
set_option maxHeartbeats 4000000
namespace L2
open PySem PySem.Spec PyProof.Rows
inductive D where
  | non | bl (b : Bool) | int (i : Int) | str (x : List Nat) | tup (xs : List D) | lst (fz : Bool) (xs : List D) | exc (C : Addr)
  /-- a dict whose keys are tuples of two truths, by their numbers, in the order of their coming -/
  | dct (ks : List Nat) (xs : List D)
noncomputable def code (a b:Bool):Nat:=(if a then 1 else 0)+(if b then 2 else 0)
inductive KeysAt (K:PySem.W.Frag) (G:Hp):DX->List Nat->Prop
 | nil:KeysAt K G [] []
 | cons {q:Addr} {v:V} {a b:Bool} {xs:DX} {ks:List Nat} (h:SqT K G q [.bl a,.bl b]) (t:KeysAt K G xs ks):KeysAt K G (([a,b],q,v)::xs) (code a b::ks)
noncomputable def GK (a C:Addr):Heap->Prop:=fun h=>∃ ob,h.get? a=some ob/\ob.cls=.ref C
mutual
inductive Rep (K:PySem.W.Frag) (G:Hp):V->D->Prop
 | non:Rep K G .non .non
 | bl (b:Bool):Rep K G (.bl b) (.bl b)
 | int (i:Int):Rep K G (.int i) (.int i)
 | str (x:Str) (h:x.length<=sizeLine):Rep K G (.str x) (.str x.cps.toList)
 | tup {a:Addr} {vs:List V} {ds:List D} (h:SqT K G a vs) (r:Reps K G vs ds):Rep K G (.ref a) (.tup ds)
 | lst {a:Addr} {vs:List V} {ds:List D} (h:G a=some (.lst vs)) (r:Reps K G vs ds):Rep K G (.ref a) (.lst false ds)
 | fls {a:Addr} {vs:List V} {ds:List D} (h:SqL K G a vs) (r:Reps K G vs ds):Rep K G (.ref a) (.lst true ds)
 | exc {a C:Addr} (h:G a=some (.ext (GK a C))):Rep K G (.ref a) (.exc C)
 | dct {a:Addr} {o:Obj} {xs:DX} {ks:List Nat} {ds:List D} (h:G a=some (DctO a o xs)) (k:KeysAt K G xs ks) (r:Reps K G (xs.map (·.2.2)) ds):Rep K G (.ref a) (.dct ks ds)
inductive Reps (K:PySem.W.Frag) (G:Hp):List V->List D->Prop
 | nil:Reps K G [] []
 | cons {v:V} {d:D} {vs:List V} {ds:List D} (r:Rep K G v d) (t:Reps K G vs ds):Reps K G (v::vs) (d::ds)
end
section
variable {K:PySem.W.Frag} {G G' H H' G1 H1 G2 H2:Hp}
theorem SqT.mono (e:Same G G') (h:SqT K G a xs):SqT K G' a xs:=by
 rcases h with (h|⟨o,h⟩)|h
 ·exact .inl (.inl (e _ _ h))
 ·exact .inl (.inr ⟨o,e _ _ h⟩)
 ·exact .inr h
theorem KeysAt.mono (e:Same G G'):∀ {xs:DX} {ks:List Nat},KeysAt K G xs ks->KeysAt K G' xs ks
 | _,_,.nil=>.nil
 | _,_,.cons h t=>.cons (h.mono e) (t.mono e)
theorem SqL.mono (e:Same G G') (h:SqL K G a xs):SqL K G' a xs:=e.seq h
mutual
theorem Rep.mono (e:Same G G'):∀ {v:V} {d:D},Rep K G v d->Rep K G' v d
 | _,_,.non=>.non
 | _,_,.bl b=>.bl b
 | _,_,.int i=>.int i
 | _,_,.str x h=>.str x h
 | _,_,.tup h r=>.tup (h.mono e) (Reps.mono e r)
 | _,_,.lst h r=>.lst (e _ _ h) (Reps.mono e r)
 | _,_,.fls h r=>.fls (h.mono e) (Reps.mono e r)
 | _,_,.exc h=>.exc (e _ _ h)
 | _,_,.dct h k r=>.dct (e _ _ h) (k.mono e) (Reps.mono e r)
theorem Reps.mono (e:Same G G'):∀ {vs:List V} {ds:List D},Reps K G vs ds->Reps K G' vs ds
 | _,_,.nil=>.nil
 | _,_,.cons r t=>.cons (Rep.mono e r) (Reps.mono e t)
end
section inv
variable {v:V}
theorem Rep.int_inv {i:Int} (r:Rep K G v (.int i)):v=.int i:=by cases r;rfl
theorem Rep.bl_inv {b:Bool} (r:Rep K G v (.bl b)):v=.bl b:=by cases r;rfl
theorem Rep.non_inv (r:Rep K G v .non):v=.non:=by cases r;rfl
theorem Rep.str_inv {x:List Nat} (r:Rep K G v (.str x)):∃ y:Str,v=.str y/\y.cps.toList=x/\y.length<=sizeLine:=by
 generalize e:D.str x=d at r
 cases r with
 | str y h=>cases e;exact ⟨y,rfl,rfl,h⟩
 | _=>cases e
theorem Rep.tup_inv {ds:List D} (r:Rep K G v (.tup ds)):∃ a vs,v=.ref a/\SqT K G a vs/\Reps K G vs ds:=by
 cases r with
 | tup h t=>exact ⟨_,_,rfl,h,t⟩
theorem Rep.lst_inv {ds:List D} (r:Rep K G v (.lst false ds)):∃ a vs,v=.ref a/\G a=some (.lst vs)/\Reps K G vs ds:=by
 cases r with
 | lst h t=>exact ⟨_,_,rfl,h,t⟩
theorem Rep.seq_inv {f:Bool} {ds:List D} (r:Rep K G v (.lst f ds)):∃ a vs,v=.ref a/\SqL K G a vs/\Reps K G vs ds:=by
 cases r with
 | lst h t=>exact ⟨_,_,rfl,.of h,t⟩
 | fls h t=>exact ⟨_,_,rfl,h,t⟩
theorem Rep.strL {x:List Nat} (e:y.cps.toList=x) (h:x.length<=sizeLine):Rep K G (.str y) (.str x):=by
 subst e;exact .str y (by simpa [Str.length] using h)
end inv
theorem Reps.length:∀ {vs:List V} {ds:List D},Reps K G vs ds->vs.length=ds.length
 | _,_,.nil=>rfl
 | _,_,.cons _ t=>by simp [Reps.length t]
theorem Reps.get:∀ {vs:List V} {ds:List D} {i:Nat} {d:D},Reps K G vs ds->ds[i]?=some d->∃ v,vs[i]?=some v/\Rep K G v d
 | _,_,_,_,.nil,e=>by simp at e
 | _,_,0,_,.cons r _,e=>by simp at e;subst e;exact ⟨_,rfl,r⟩
 | _,_,i+1,d,.cons _ t,e=>by
  obtain ⟨v,h1,h2⟩:=Reps.get (i:=i) (d:=d) t (by simpa using e)
  exact ⟨v,by simpa using h1,h2⟩
theorem Reps.append:∀ {vs ws:List V} {ds es:List D},Reps K G vs ds->Reps K G ws es->Reps K G (vs++ws) (ds++es)
 | _,_,_,_,.nil,s=>s
 | _,_,_,_,.cons r t,s=>.cons r (Reps.append t s)
theorem Reps.take:∀ {vs:List V} {ds:List D} (n:Nat),Reps K G vs ds->Reps K G (vs.take n) (ds.take n)
 | _,_,0,_=>by simpa using Reps.nil
 | _,_,_+1,.nil=>.nil
 | _,_,n+1,.cons r t=>.cons r (Reps.take n t)
theorem Reps.drop:∀ {vs:List V} {ds:List D} (n:Nat),Reps K G vs ds->Reps K G (vs.drop n) (ds.drop n)
 | _,_,0,r=>r
 | _,_,_+1,.nil=>.nil
 | _,_,n+1,.cons _ t=>Reps.drop n t
theorem Reps.set {d:D} (r:Rep K G v d):∀ {vs:List V} {ds:List D} (i:Nat),Reps K G vs ds->Reps K G (vs.set i v) (ds.set i d)
 | _,_,_,.nil=>.nil
 | _,_,0,.cons _ t=>.cons r t
 | _,_,i+1,.cons q t=>.cons q (Reps.set r i t)
theorem Reps.rep {ds:List D} (r:Reps K G vs ds):∀ n:Nat,Reps K G (List.replicate n vs).flatten (List.replicate n ds).flatten
 | 0=>.nil
 | n+1=>by
  simp only [List.replicate_succ,List.flatten_cons]
  exact Reps.append r (Reps.rep r n)
structure Up (G H G' H':Hp):Prop where
 sub:Same G' H'
 gg:Same G G'
 hh:Same H H'
 fr:∀ a o,G' a=some o->G a=some o\/H a=none
theorem Up.refl (s:Same G H):Up G H G H:=⟨s,.refl _,.refl _,fun _ _ h=>.inl h⟩
theorem Up.trans (a:Up G H G1 H1) (b:Up G1 H1 G2 H2):Up G H G2 H2:=⟨b.sub,a.gg.trans b.gg,a.hh.trans b.hh,fun c o h=>by
 rcases b.fr c o h with h|h
 ·exact a.fr c o h
 ·exact .inr (a.hh.free h)⟩
theorem Same.both {p:Addr} {o:HO} (s:Same G H):Same (upd G p o) (upd H p o):=fun a u h=>by
 unfold L2.upd at h ⊢
 split
 ·rename_i e;rw [if_pos e] at h;exact h
 ·rename_i e;rw [if_neg e] at h;exact s a u h
theorem Same.into {p:Addr} {o:HO} (h:H p=none):Same H (upd H p o):=fun a u e=>by
 rw [aU (aN e h)];exact e
theorem Up.new {p:Addr} {o:HO} (s:Same G H) (hp:H p=none):Up G H (upd G p o) (upd H p o):=
 ⟨s.both,.into (s.free hp),.into hp,fun a u h=>by
  by_cases e:a=p
  ·subst e;exact .inr hp
  ·rw [aU e] at h;exact .inl h⟩
end
inductive R (α:Type) where
 | ok (a:α)|ex (C:Addr)|no
noncomputable def R.bind {α β:Type}:R α->(α->R β)->R β
 | .ok a,f=>f a
 | .ex C,_=>.ex C
 | .no,_=>.no
instance:Monad R where
 pure:=.ok
 bind:=R.bind
section
variable {α β:Type}
@[simp] theorem R.ok_bind (a:α) (f:α->R β):(R.ok a>>=f)=f a:=rfl
@[simp] theorem R.ex_bind (C:Addr) (f:α->R β):((R.ex C:R α)>>=f)=.ex C:=rfl
noncomputable def R.post (m:R α) (P:α->Prop) (E:Addr->Prop):Prop:=match m with
 | .ok a=>P a
 | .ex C=>E C
 | .no=>False
theorem R.post.mono {m:R α} {P P':α->Prop} {E E':Addr->Prop} (h:m.post P E) (hp:∀ a,P a->P' a) (he:∀ C,E C->E' C):m.post P' E':=by
 cases m with
 | ok a=>exact hp a h
 | ex C=>exact he C h
 | no=>exact h
def ofO:Option α->R α
 | some a=>.ok a
 | none=>.no
@[simp] theorem cG (a:α):ofO (some a)=R.ok a:=rfl
theorem ofO.ok {o:Option α} {P:α->Prop} {E:Addr->Prop} (h:(ofO o).post P E):∃ a,o=some a/\P a:=by
 cases o with
 | none=>exact h.elim
 | some a=>exact ⟨a,rfl,h⟩
end
inductive Fd where
 | val (d:D)|own (ds:List D)
inductive Sl where
  | val (d : D)
  /-- a list that no other name, and no datum, holds -/
  | own (ds : List D)
  /-- an instance of the class at C, at p, that no other name, and no datum, holds; m: it may be changed -/
  | obj (m : Bool) (C p : Addr) (fs : List (Nat × Fd))
abbrev Ev:=List (Option Sl)
noncomputable def rdV (ρ:Ev) (i:Nat):R D:=match ρ[i]? with
 | some (some (.val d))=>.ok d
 | _=>.no
abbrev rvz(i:Nat):Ev->R D:=fun ρ=>rdV ρ i
abbrev ciz(n:Int):Ev->R D:=fun _=>R.ok (D.int n)
abbrev nlz:Ev->R (List D):=fun _=>R.ok []
abbrev csz(x:List Nat):Ev->R D:=fun _=>R.ok (D.str x)
noncomputable def fnames:List Str:=["states","taken_back","width","screen","last_notes","tasks","numbers_given"]
def Hy (k:Nat):Str:=fnames.getD k ""
abbrev li:=Addr->Option (Nat×Nat)
noncomputable def FdAt (K:PySem.W.Frag) (H₀ G H:Hp) (ow:li) (i:Nat) (m:Bool) (k:Nat):Fd->V->Prop
 | .val d,v=>Rep K G v d
 | .own ds,v=>∃ l ws,v=.ref l/\H l=some (.lst ws)/\G l=none/\(m=true->H₀ l=none)/\Reps K G ws ds/\ow l=some (i,k+1)
inductive FdsAt (K:PySem.W.Frag) (H₀ G H:Hp) (ow:li) (i:Nat) (m:Bool):List (Nat×Fd)->List (Str×V)->Prop
 | nil:FdsAt K H₀ G H ow i m [] []
 | cons {k:Nat} {fd:Fd} {v:V} {fs:List (Nat×Fd)} {vs:List (Str×V)} (h:k<fnames.length) (nk:fs.lookup k=none) (r:FdAt K H₀ G H ow i m k fd v) (t:FdsAt K H₀ G H ow i m fs vs):FdsAt K H₀ G H ow i m ((k,fd)::fs) ((Hy k,v)::vs)
noncomputable def InsAt (K:PySem.W.Frag) (H₀ G H:Hp) (ow:li) (i:Nat) (m:Bool) (C p:Addr) (fs:List (Nat×Fd)):Prop:=
 ∃ dx vs,H p=some (.ins C dx vs)/\H dx=some (.own p)/\G p=none/\G dx=none/\(m=true->H₀ p=none/\H₀ dx=none)/\ow p=some (i,0)/\ow dx=some (i,0)/\FdsAt K H₀ G H ow i m fs vs
noncomputable def DcoAt (K:PySem.W.Frag) (H₀ G H:Hp) (ow:li) (i:Nat) (m:Bool) (p:Addr) (fs:List (Nat×Fd)):Prop:=
 ∃ o xs ks ds,H p=some (DctO p o xs)/\G p=none/\(m=true->H₀ p=none)/\ow p=some (i,0)/\KeysAt K G xs ks/\Reps K G (xs.map (·.2.2)) ds/\fs=ks.zip (ds.map Fd.val)
abbrev DC:Addr:=0
noncomputable def ObjAt (K:PySem.W.Frag) (H₀ G H:Hp) (ow:li) (i:Nat) (m:Bool) (C p:Addr) (fs:List (Nat×Fd)):Prop:=(C≠DC/\InsAt K H₀ G H ow i m C p fs)\/(C=DC/\DcoAt K H₀ G H ow i m p fs)
section
variable {K:PySem.W.Frag} {H₀ G H:Hp} {ow:li} {i:Nat} {m:Bool} {C p:Addr} {fs:List (Nat×Fd)}
theorem ObjAt.dco (h:ObjAt K H₀ G H ow i m DC p fs):DcoAt K H₀ G H ow i m p fs:=(h.resolve_left fun z=>z.1 rfl).2
end
section
variable {K:PySem.W.Frag} {H₀ H₀' G H G' H':Hp} {ow ow':li} {i:Nat}
structure ObKeep (H₀ H₀' G H G' H':Hp) (ow ow':li) (i:Nat):Prop where
 hh:∀ a t o,ow a=some (i,t)->H a=some o->H' a=some o
 gg:Same G G'
 gn:∀ a t o,ow a=some (i,t)->H a=some o->G a=none->G' a=none
 oo:∀ a t o,ow a=some (i,t)->H a=some o->ow' a=some (i,t)
 h0:∀ a o,H a=some o->G a=none->H₀ a=none->H₀' a=none
theorem FdAt.keep (k:ObKeep H₀ H₀' G H G' H' ow ow' i) {m:Bool} {n:Nat}:∀ {fd:Fd} {v:V},FdAt K H₀ G H ow i m n fd v->FdAt K H₀' G' H' ow' i m n fd v
 | .val d,v,r=>Rep.mono k.gg (show Rep K G v d from r)
 | .own ds,v,⟨l,ws,e,h1,h2,h3,h4,h5⟩=>⟨l,ws,e,k.hh l _ _ h5 h1,k.gn l _ _ h5 h1 h2,fun z=>k.h0 l _ h1 h2 (h3 z),h4.mono k.gg,k.oo l _ _ h5 h1⟩
theorem FdsAt.keep (k:ObKeep H₀ H₀' G H G' H' ow ow' i) {m:Bool}:∀ {fs:List (Nat×Fd)} {vs:List (Str×V)},FdsAt K H₀ G H ow i m fs vs->FdsAt K H₀' G' H' ow' i m fs vs
 | _,_,.nil=>.nil
 | _,_,.cons h nk r t=>.cons h nk (FdAt.keep k r) (FdsAt.keep k t)
theorem InsAt.keep (k:ObKeep H₀ H₀' G H G' H' ow ow' i) {m:Bool} {p:Addr} {fs:List (Nat×Fd)} (h:InsAt K H₀ G H ow i m C p fs):InsAt K H₀' G' H' ow' i m C p fs:=by
 obtain ⟨dx,vs,h1,h2,h3,h4,h5,h6,h7,h8⟩:=h
 exact ⟨dx,vs,k.hh p _ _ h6 h1,k.hh dx _ _ h7 h2,k.gn p _ _ h6 h1 h3,k.gn dx _ _ h7 h2 h4,fun z=>⟨k.h0 p _ h1 h3 (h5 z).1,k.h0 dx _ h2 h4 (h5 z).2⟩,k.oo p _ _ h6 h1,k.oo dx _ _ h7 h2,h8.keep k⟩
theorem DcoAt.keep (k:ObKeep H₀ H₀' G H G' H' ow ow' i) {m:Bool} {p:Addr} {fs:List (Nat×Fd)} (h:DcoAt K H₀ G H ow i m p fs):DcoAt K H₀' G' H' ow' i m p fs:=
 let ⟨o,xs,ks,ds,h1,h2,h3,h4,h5,h6,h7⟩:=h
 ⟨o,xs,ks,ds,k.hh p _ _ h4 h1,k.gn p _ _ h4 h1 h2,fun z=>k.h0 p _ h1 h2 (h3 z),k.oo p _ _ h4 h1,h5.mono k.gg,h6.mono k.gg,h7⟩
theorem ObjAt.keep (k:ObKeep H₀ H₀' G H G' H' ow ow' i) {m:Bool} {p:Addr} {fs:List (Nat×Fd)} (h:ObjAt K H₀ G H ow i m C p fs):ObjAt K H₀' G' H' ow' i m C p fs:=h.imp (fun z=>⟨z.1,z.2.keep k⟩) fun z=>⟨z.1,z.2.keep k⟩
theorem ObKeep.up (u:Up G H G' H'):ObKeep H₀ H₀ G H G' H' ow ow i:=by
 have gn:∀ a o,H a=some o->G a=none->G' a=none:=fun a o e n=>by
  cases q:G' a with
  | none=>rfl
  | some o'=>
   rcases u.fr a o' q with z|z
   ·rw [n] at z;cases z
   ·rw [e] at z;cases z
 exact ⟨fun a t o _ e=>u.hh a o e,u.gg,fun a t o _ e n=>gn a o e n,fun a t o e _=>e,fun a o _ _ n=>n⟩
end
theorem ObjAt.rd {K:PySem.W.Frag} {H₀:Hp} {ow:li} {m:Bool} {p:Addr} {fs:List (Nat×Fd)} (h:ObjAt K H₀ G H ow i m C p fs):ObjAt K (fun _=>none) G H ow i m C p fs:=
 h.keep ⟨fun _ _ _ _ e=>e,.refl _,fun _ _ _ _ _ n=>n,fun _ _ _ e _=>e,fun _ _ _ _ _=>rfl⟩
structure StE (K:PySem.W.Frag) (G H:Hp) (σ:St) (ρ:Ev):Prop where
 sub:Same G H
 len:σ.length=ρ.length
 val:∀ (i:Nat) d,ρ[i]?=some (some (.val d))->∃ v,σ[i]?=some (some v)/\Rep K G v d
 obs:∀ (i:Nat) m C p fs,ρ[i]?=some (some (.obj m C p fs))->σ[i]?=some (some (.ref p))/\∃ ow,ObjAt K (fun _=>none) G H ow i m C p fs
theorem StE.up {K:PySem.W.Frag} {G':Hp} {ρ:Ev} (s:StE K G H σ ρ) (u:Up G H G' H'):StE K G' H' σ ρ:=
 ⟨u.sub,s.len,fun i d e=>let ⟨v,h1,h2⟩:=s.val i d e;⟨v,h1,h2.mono u.gg⟩,fun i m C p fs e=>let ⟨h1,ow,h2⟩:=s.obs i m C p fs e;⟨h1,ow,h2.keep (.up u)⟩⟩
noncomputable def EM (P:Program) (w:World) (outer:List Env) (H:Hp) (s:Shared) (a C:Addr) (H':Hp) (s':Shared):Prop:=
 s'.os=s.os/\AllBare s'.gens/\Un (frs outer) [] H H' s.heap s'.heap/\HOk P w H' s'.heap/\H' a=none/\
 ∃ (B:Heap) (a0:Value),Heap.FlyingW B outer a (.ref C) a0 s'.heap/\∀ b o,b ∉ frs outer->((∃ o0,s.heap.get? b=some o0)\/∃ u,H' b=some u)->s'.heap.get? b=some o->B.get? b=some o
noncomputable def CXo (P:Program) (w:World):CXT:=fun outer H s E e s'=>∃ a C H',e=.ref a/\EM P w outer H s a C H' s'/\E (.ref C) none H'
noncomputable def Nk (X:Cx) (pins:List (Addr×Obj)) (b:Addr):Prop:=
 (b∈X.ex\/X.s₀.heap.objs.size<=b)/\b≠X.env.locals/\(∀ x c,X.env.cells.lookup x=some c->c≠b)/\∀ p∈X.pn++pins,p.1≠b
noncomputable def En (X:Cx) (pins:List (Addr×Obj)) (L:Addr) (H:Hp) (s:Shared) (a C:Addr) (H':Hp) (s':Shared):Prop:=
 s'.os=s.os/\AllBare s'.gens/\(∃ ch,(∀ b∈ch,Nk X pins b)/\Un (frs X.stack) ch H H' s.heap s'.heap)/\HOk X.prog X.w H' s'.heap/\H' a=none/\s.heap.get? a=none/\
 ∃ (B:Heap) (a0:Value),Heap.HeldW B X.stack a (.ref C) a0 L s'.heap/\∀ b o,b ∉ frs X.stack->((∃ o0,s.heap.get? b=some o0)\/∃ u,H' b=some u)->s'.heap.get? b=some o->B.get? b=some o
noncomputable def Mh (X:Cx) (σ:St) (G₁ H₁:Hp) (C:Addr) (e:Value) (s':Shared):Prop:=
 ∃ pins s₁ a,e=.ref a/\Inv X pins σ H₁ s₁/\
  ((∃ h' vs,Heap.MadeExcOf s₁.heap h' a (.ref C) vs/\s'={ s₁ with heap:=h' })\/(∃ G' H',EM X.prog X.w X.stack H₁ s₁ a C H' s'/\Up G₁ H₁ G' H')\/∃ G' H' L,X.env.frame=some L/\En X pins L H₁ s₁ a C H' s'/\Up G₁ H₁ G' H')
noncomputable def Fly (X:Cx) (σ:St) (G H:Hp) (C:Addr) (e:Value) (s':Shared):Prop:=∃ G₁ H₁,Up G H G₁ H₁/\Mh X σ G₁ H₁ C e s'
theorem Fly.up {G1 H1:Hp} {e:Value} (u:Up G H G1 H1) (f:Fly X σ G1 H1 C e s'):Fly X σ G H C e s':=
 let ⟨G2,H2,v,q⟩:=f;⟨G2,H2,u.trans v,q⟩
section
variable {α β:Type}
noncomputable def Fin (G H:Hp) (rep:Hp->β->α->Prop) (Q:β->Hp->Prop):α->Prop:=fun d=>∀ v G' H',Up G H G' H'->rep G' v d->Q v H'
noncomputable def Exx (X:Cx) (σ:St) (G H:Hp):Addr->Prop:=fun C=>∀ e s',Fly X σ G H C e s'->X.xe e s'
theorem Fin.up {G1 H1:Hp} {rep:Hp->β->α->Prop} {Q:β->Hp->Prop} {d:α} (u:Up G H G1 H1) (h:Fin G H rep Q d):Fin G1 H1 rep Q d:=fun v G' H' u' r=>h v G' H' (u.trans u') r
theorem Exx.up {G1 H1:Hp} (u:Up G H G1 H1) (h:Exx X σ G H C):Exx X σ G1 H1 C:=fun e s' f=>h e s' (f.up u)
theorem qq {G1 H1:Hp} {rep:Hp->β->α->Prop} {Q:β->Hp->Prop} {m:R α} (u:Up G H G1 H1) (h:m.post (Fin G H rep Q) (Exx X σ G H)):m.post (Fin G1 H1 rep Q) (Exx X σ G1 H1):=
 h.mono (fun _=>Fin.up u) fun _=>Exx.up u
noncomputable def tG (X:Cx) (rep:Hp->β->α->Prop) (g:Ev->R α):St->Hp->(β->Hp->Prop)->Prop:=fun σ H Q=>∃ G ρ,StE X.K G H σ ρ/\(g ρ).post (Fin G H rep Q) (Exx X σ G H)
theorem tG.intro {γ δ:Type} {ρ:Ev} {rep:Hp->β->α->Prop} {rep':Hp->δ->γ->Prop} {g:Ev->R α} {k:α->R γ} {Q:β->Hp->Prop} {Q':δ->Hp->Prop} (st:StE X.K G H σ ρ)
 (h:(g ρ>>=k).post (Fin G H rep' Q') (Exx X σ G H)) (hk:∀ a,∀ v G1 H1,Up G H G1 H1->StE X.K G1 H1 σ ρ->rep G1 v a->(k a).post (Fin G1 H1 rep' Q') (Exx X σ G1 H1)->Q v H1):tG X rep g σ H Q:=by
 refine ⟨G,ρ,st,?_⟩
 cases e:g ρ with
 | ok a=>rw [e] at h;exact fun v G' H' u r=>hk a v G' H' u (st.up u) r (qq u h)
 | ex C=>rw [e] at h;exact h
 | no=>rw [e] at h;exact h
theorem tG.last {ρ:Ev} {rep:Hp->β->α->Prop} {g:Ev->R α} {Q:β->Hp->Prop} (st:StE X.K G H σ ρ) (h:(g ρ).post (Fin G H rep Q) (Exx X σ G H)):tG X rep g σ H Q:=⟨G,ρ,st,h⟩
end
abbrev tF (X:Cx) (g:Ev->R D):TE:=tG X (Rep X.K) g
noncomputable abbrev tTF (X:Cx) (g:Ev->R Bool):TT:=tG X (fun _ b c=>b=c) g
abbrev tAF (X:Cx) (g:Ev->R (List D)):TA:=tG X (Reps X.K) g
def QF (X:Cx) (e:Expr) (g:Ev->R D):Prop:=PE X e (tF X g)
noncomputable def QB (X:Cx) (e:Expr) (g:Ev->R Bool):Prop:=PT X e (tTF X g)
noncomputable def QBW (X:Cx) (e:Expr) (g:Ev->R Bool):Prop:=PW X e (tTF X g)
noncomputable def QFA (X:Cx) (es:List Expr) (g:Ev->R (List D)):Prop:=PA X es (tAF X g)
end L2
variable {g F gr am aW aO az av aw ax ai ak aj bd aQ bG aR ag bC:List L2.D->L2.R L2.D} {d:L2.D} {ds rows:List L2.D} {ow:L2.li} {ρ:L2.Ev} {gl gi:L2.Ev->L2.R (List L2.D)} {asg:L2.D->L2.Ev->L2.R L2.Ev} {ge gb:L2.Ev->L2.R L2.D} {gs:List (L2.Ev->L2.R L2.D)} {fs':List (Nat×L2.Fd)} {kv:List (Nat×L2.D)}
namespace L2
open PySem PySem.Spec PyProof.Rows
theorem rdV.ok {P:D->Prop} {E:Addr->Prop} (h:(rdV ρ i).post P E):∃ d,ρ[i]?=some (some (.val d))/\P d:=by
 unfold rdV at h
 split at h
 ·rename_i d e;exact ⟨d,e,h⟩
 ·exact h.elim
section
variable {X:Cx} {e a b c:Expr} {ga gb gc:Ev->R D} {pos:Pos}
theorem wR (i:Nat) (hN:X.N[i]?=some x:=by rfl) (hv:Vis X.env.scope x:=by first|exact Or.inl rfl|exact Or.inr (Or.inl rfl)|exact Or.inr (Or.inr rfl)) (hd:(x==("__debug__":Str))=false:=by decide)
 (hcd:(x==("__classdict__":Str))=false:=by decide):QF X (.Name x pos) (fun ρ=>rdV ρ i):=by
 intro pins s σ H Q I h
 obtain ⟨G,ρ,st,h⟩:=h
 refine gT hN hv hd hcd pins s σ H Q I ?_
 obtain ⟨d,e,q⟩:=rdV.ok h
 obtain ⟨v,e',r⟩:=st.val i d e
 exact ⟨v,e',q v G H (.refl st.sub) r⟩
theorem fK (h:PE X e (tC v)) (hr:∀ K G,Rep K G v d):QF X e (fun _=>.ok d):=by
 intro pins s σ H Q I q
 obtain ⟨G,ρ,st,q⟩:=q
 exact h pins s σ H Q I (q v G H (.refl st.sub) (hr _ _))
noncomputable def ROk (K:PySem.W.Frag) (r:R2) (f:D->D->Option D):Prop:=∀ (G H:Hp) (x y:V) (dx dy d:D) (Q:VK),Same G H->Rep K G x dx->Rep K G y dy->f dx dy=some d->Fin G H (Rep K) Q d->r x y H Q
noncomputable def g2 (f:D->D->Option D) (ga gb:Ev->R D):Ev->R D:=fun ρ=>ga ρ>>=fun x=>gb ρ>>=fun y=>ofO (f x y)
theorem BP {r:R2} {f:D->D->Option D} (hf:ROk X.K r f) {Q:VK} (h:tF X (g2 f ga gb) σ H Q):tOp r (tF X ga) (tF X gb) σ H Q:=by
 obtain ⟨G,ρ,st,h⟩:=h
 refine tG.intro st h fun x v G1 H1 u1 st1 r1 h1=>?_
 refine tG.intro st1 h1 fun y w G2 H2 u2 st2 r2 h2=>?_
 obtain ⟨d,e,q⟩:=ofO.ok h2
 exact hf G2 H2 v w x y d Q st2.sub (r1.mono u2.gg) r2 e q
theorem jB {op:Operator} {r:R2} {f:D->D->Option D} (ho:OpR X (binaryOp op) r) (hf:ROk X.K r f) (ha:QF X a ga) (hb:QF X b gb):QF X (.BinOp a op b pos) (g2 f ga gb):=
 fun pins s σ H Q I h=>LJ ho ha hb pins s σ H Q I (BP hf h)
theorem wP {op:CmpOp} {r:R2} {f:D->D->Option D} (ho:OpR X (compareOp op) r) (hf:ROk X.K r f) (ha:QF X a ga) (hb:QF X b gb) (hm:behindInMarks op b=false):QF X (.Compare a [op] [b] pos) (g2 f ga gb):=
 fun pins s σ H Q I h=>Fg ho ha hb hm pins s σ H Q I (BP hf h)
noncomputable def g3 (f f':D->D->Option D) (ga gb gc:Ev->R D):Ev->R D:=fun ρ=>ga ρ>>=fun x=>gb ρ>>=fun y=>ofO (f x y)>>=fun z=>match z with
 | .bl true=>gc ρ>>=fun w=>ofO (f' y w)
 | .bl false=>.ok (.bl false)
 | _=>.no
theorem yt {op op':CmpOp} {r r':R2} {f f':D->D->Option D} (ho:OpR X (compareOp op) r) (ho':OpR X (compareOp op') r') (hf:ROk X.K r f) (hf':ROk X.K r' f') (ha:QF X a ga) (hb:QF X b gb) (hc:QF X c gc)
 (hm:lastMarks [op,op'] [b,c]=false:=by with_unfolding_all rfl):QF X (.Compare a [op,op'] [b,c] pos) (g3 f f' ga gb gc):=by
 intro pins s σ H Q I h
 refine C6 ho ho' ha hb hc hm pins s σ H Q I ?_
 obtain ⟨G,ρ,st,h⟩:=h
 refine tG.intro st h fun x v G1 H1 u1 st1 r1 h1=>?_
 refine tG.intro st1 h1 fun y w G2 H2 u2 st2 r2 h2=>?_
 cases e:f x y with
 | none=>rw [e] at h2;exact h2.elim
 | some d=>
  rw [e] at h2
  refine hf G2 H2 v w x y d _ st2.sub (r1.mono u2.gg) r2 e fun z G3 H3 u3 r3=>?_
  have h3:=qq u3 h2
  have st3:=st2.up u3
  cases r3 with
  | bl k=>
   refine ⟨k,rfl,?_⟩
   cases k with
   | false=>rw [if_neg Bool.false_ne_true];exact h3 _ G3 H3 (.refl st3.sub) (.bl false)
   | true=>
    rw [if_pos rfl]
    refine tG.intro st3 (show (gc ρ>>=fun w=>ofO (f' y w)).post _ _ from h3) fun q vq G4 H4 u4 st4 r4 h4=>?_
    obtain ⟨d,e',q'⟩:=ofO.ok h4
    exact hf' G4 H4 w vq y q d Q st4.sub ((r2.mono u3.gg).mono u4.gg) r4 e' q'
  | _=>exact h3.elim
end
section
variable {X:Cx}
noncomputable def bR:D->D->Option D
 | .int i,.int j=>some (.int (i+j))
 | .str x,.str y=>if x.length+y.length<=sizeLine then some (.str (x++y)) else none
 | .lst false xs,.lst false ys=>if xs.length+ys.length<=sizeLine then some (.lst false (xs++ys)) else none
 | .tup xs,.tup ys=>if xs.length+ys.length<=sizeLine then some (.tup (xs++ys)) else none
 | _,_=>none
noncomputable def D4 (K:PySem.W.Frag):R2:=fun x y H Q=>∃ a b xs ys,x=.ref a/\y=.ref b/\SqT K H a xs/\SqT K H b ys/\xs.length+ys.length<=sizeLine/\
 (xs=[]->Q (.ref b) H)/\(xs≠[]->ys=[]->Q (.ref a) H)/\(xs≠[]->ys≠[]->∀ p,H p=none->Q (.ref p) (upd H p (.tup (xs++ys))))
theorem BU:OpR X (binaryOp .Add) (D4 X.K):=by
 intro pins s σ H x y v u Q I rx ry h
 obtain ⟨a,b,xs,ys,rfl,rfl,ha,hb,hz,q0,q1,q2⟩:=h
 by_cases hx:xs=[]
 ·cases rx
  cases ry
  obtain ⟨its,r1,p1,_⟩:=I.tuple ha
  obtain ⟨its2,r2,p2,_⟩:=I.tuple hb
  have hi:its=[]:=r1.nil_iff.mpr hx
  obtain ⟨⟨cls,dd,data,sl⟩,ho,hc,n,hd⟩:=id p1
  obtain ⟨⟨cls2,dd2,data2,sl2⟩,ho2,hc2,n2,hd2⟩:=id p2
  simp only at hc hd hc2 hd2
  subst hc hd hc2 hd2
  exact concat_meets ⟨_,ho,rfl⟩ ⟨_,ho2,rfl⟩ noFill_tuple_add seq_tuple_add PySem.F.slot_tuple_add PySem.F.entry_tuple_add (PySem.F.args_tuple_add_2 _ _)
   (tuple_addW0 a b its.toArray its2.toArray n n2 dd dd2 sl sl2 (by simp [hi])) ⟨ho,ho2,.ref b,H,I,rfl,q0 hx⟩
 ·exact E9 pins s σ H _ _ v u Q I rx ry ⟨a,b,xs,ys,rfl,rfl,ha,hb,hx,hz,q1 hx,q2 hx⟩
noncomputable def Jl (K:PySem.W.Frag):R2:=fun x y H Q=>(rI0 fun i j=>.int (i+j)) x y H Q\/(∃ i j,x=.str i/\y=.str j/\i.length+j.length<=sizeLine/\Q (.str (i++j)) H)\/Mg x y H Q\/D4 K x y H Q
theorem Gn:OpR X (binaryOp .Add) (Jl X.K):=op_add.or (op_add_str.or (op_cat.or BU))
theorem Str.app_list (x y:Str):(x++y).cps.toList=x.cps.toList++y.cps.toList:=by
 show (x.cps++y.cps).toList=_
 simp
theorem Str.len_list (x:Str):x.cps.toList.length=x.length:=by simp [Str.length]
theorem IH (K:PySem.W.Frag):ROk K (Jl K) bR:=by
 intro G H x y dx dy d Q s rx ry e q
 unfold bR at e
 split at e
 ·cases e
  exact .inl ⟨_,_,rx.int_inv,ry.int_inv,q _ G H (.refl s) (.int _)⟩
 ·split at e
  ·rename_i hz
   cases e
   obtain ⟨i,rfl,ei,hi⟩:=rx.str_inv
   obtain ⟨j,rfl,ej,hj⟩:=ry.str_inv
   subst ei ej
   rw [Str.len_list,Str.len_list] at hz
   exact .inr (.inl ⟨i,j,rfl,rfl,hz,q _ G H (.refl s) (.strL (Str.app_list i j) (by rw [List.length_append,Str.len_list,Str.len_list];exact hz))⟩)
  ·cases e
 ·split at e
  ·rename_i hz
   cases e
   obtain ⟨a,vs,rfl,ha,ra⟩:=rx.lst_inv
   obtain ⟨b,ws,rfl,hb,rb⟩:=ry.lst_inv
   refine .inr (.inr (.inl ⟨a,b,vs,ws,rfl,rfl,s _ _ ha,s _ _ hb,by rw [ra.length,rb.length];exact hz,fun p hp=>q _ _ _ (.new s hp) (.lst bc ?_)⟩))
   exact (ra.append rb).mono (.into (s.free hp))
  ·cases e
 ·split at e
  ·rename_i hz
   cases e
   obtain ⟨a,vs,rfl,ha,ra⟩:=rx.tup_inv
   obtain ⟨b,ws,rfl,hb,rb⟩:=ry.tup_inv
   refine .inr (.inr (.inr ⟨a,b,vs,ws,rfl,rfl,ha.mono s,hb.mono s,by rw [ra.length,rb.length];exact hz,fun z=>?_,fun _ z=>?_,fun _ _ p hp=>?_⟩))
   ·subst z
    cases ra
    exact q _ G H (.refl s) (.tup hb rb)
   ·subst z
    cases rb
    rw [List.append_nil] at q
    exact q _ G H (.refl s) (.tup ha ra)
   ·exact q _ _ _ (.new s hp) (.tup (.of bc) ((ra.append rb).mono (.into (s.free hp))))
  ·cases e
 ·cases e
noncomputable def vM:D->D->Option D
 | .int i,.int j=>some (.int (i - j))
 | _,_=>none
noncomputable def Dl:D->D->Option D
 | .int i,.int j=>if 0<j/\j<1073741824 then some (.int (i / j)) else none
 | _,_=>none
noncomputable def zT:D->D->Option D
 | .int i,.int j=>if 0<j then some (.int (i % j)) else none
 | _,_=>none
end
section
variable {X:Cx} {a b c e:Expr} {ga gb gc:Ev->R D} {pos:Pos}
noncomputable def leD:D->D->Option D
 | .int i,.int j=>some (.bl (decide (i<=j)))
 | .str x,.str y=>some (.bl (!decide (y<x)))
 | _,_=>none
noncomputable def ltD:D->D->Option D
 | .int i,.int j=>some (.bl (decide (i<j)))
 | .str x,.str y=>some (.bl (decide (x<y)))
 | _,_=>none
noncomputable def gtD:D->D->Option D
 | .int i,.int j=>some (.bl (decide (j<i)))
 | _,_=>none
noncomputable def geD:D->D->Option D
 | .int i,.int j=>some (.bl (decide (j<=i)))
 | _,_=>none
theorem A6:OpR X (compareOp .LtE) (fun x y H Q=>∃ i j:Str,x=.str i/\y=.str j/\Q (.bl (!decide (j.cps.toList<i.cps.toList))) H):=by
 intro pins s σ H x y v u Q I rx ry h
 obtain ⟨i,j,rfl,rfl,q⟩:=h
 obtain ⟨t,rfl⟩:=rx
 obtain ⟨t',rfl⟩:=ry
 exact PySem.P.le_str (ze I q rfl)
theorem ym (K:PySem.W.Frag):ROk K (fun x y H Q=>(rI0 fun i j=>.bl (decide (i<=j))) x y H Q\/∃ i j:Str,x=.str i/\y=.str j/\Q (.bl (!decide (j.cps.toList<i.cps.toList))) H) leD:=by
 intro G H x y dx dy d Q s rx ry e q
 unfold leD at e
 split at e
 ·cases e
  exact .inl ⟨_,_,rx.int_inv,ry.int_inv,q _ G H (.refl s) (.bl _)⟩
 ·cases e
  obtain ⟨i,rfl,ei,hi⟩:=rx.str_inv
  obtain ⟨j,rfl,ej,hj⟩:=ry.str_inv
  subst ei ej
  exact .inr ⟨i,j,rfl,rfl,q _ G H (.refl s) (.bl _)⟩
 ·cases e
theorem KO (K:PySem.W.Frag):ROk K (fun x y H Q=>(rI0 fun i j=>.bl (decide (i<j))) x y H Q\/∃ i j:Str,x=.str i/\y=.str j/\Q (.bl (decide (i.cps.toList<j.cps.toList))) H) ltD:=by
 intro G H x y dx dy d Q s rx ry e q
 unfold ltD at e
 split at e
 ·cases e
  exact .inl ⟨_,_,rx.int_inv,ry.int_inv,q _ G H (.refl s) (.bl _)⟩
 ·cases e
  obtain ⟨i,rfl,ei,hi⟩:=rx.str_inv
  obtain ⟨j,rfl,ej,hj⟩:=ry.str_inv
  subst ei ej
  exact .inr ⟨i,j,rfl,rfl,q _ G H (.refl s) (.bl _)⟩
 ·cases e
theorem J1 (K:PySem.W.Frag):ROk K (rI0 fun i j=>.bl (decide (j<i))) gtD:=by
 intro G H x y dx dy d Q s rx ry e q
 unfold gtD at e
 split at e
 ·cases e
  exact ⟨_,_,rx.int_inv,ry.int_inv,q _ G H (.refl s) (.bl _)⟩
 ·cases e
theorem Lv (K:PySem.W.Frag):ROk K (rI0 fun i j=>.bl (decide (j<=i))) geD:=by
 intro G H x y dx dy d Q s rx ry e q
 unfold geD at e
 split at e
 ·cases e
  exact ⟨_,_,rx.int_inv,ry.int_inv,q _ G H (.refl s) (.bl _)⟩
 ·cases e
theorem pA:OpR X (compareOp .LtE) (fun x y H Q=>(rI0 fun i j=>.bl (decide (i<=j))) x y H Q\/∃ i j:Str,x=.str i/\y=.str j/\Q (.bl (!decide (j.cps.toList<i.cps.toList))) H):=op_le.or A6
theorem Ip:OpR X (compareOp .Lt) (fun x y H Q=>(rI0 fun i j=>.bl (decide (i<j))) x y H Q\/∃ i j:Str,x=.str i/\y=.str j/\Q (.bl (decide (i.cps.toList<j.cps.toList))) H):=op_lt.or AA
end
noncomputable def eqZ (f:D->D->Option Bool):List D->List D->Option (List Bool)
 | x::xs,y::ys=>(f x y).bind fun b=>(eqZ f xs ys).map (b::·)
 | _,_=>some []
noncomputable def eqD:Nat->D->D->Option Bool
 | 0,_,_=>none
 | n+1,a,b=>match a,b with
  | .non,.non=>some true
  | .bl x,.bl y=>some (x==y)
  | .int i,.int j=>some (i==j)
  | .str x,.str y=>some (x==y)
  | .bl x,.int j=>some ((if x then 1 else 0)==j)
  | .int i,.bl y=>some (i==(if y then 1 else 0))
  | .lst _ xs,.lst _ ys=>if xs.length=ys.length then (eqZ (eqD n) xs ys).map fun bs=>bs.all id else some false
  | .tup xs,.tup ys=>(eqZ (eqD n) xs ys).map fun bs=>bs.all id && xs.length==ys.length
  | .exc _,_=>none
  | .dct _ _,_=>none
  | _,.exc _=>none
  | _,.dct _ _=>none
  | _,_=>some false
theorem eqZ.get {f:D->D->Option Bool}:∀ {xs ys:List D} {bs:List Bool},eqZ f xs ys=some bs->bs.length=min xs.length ys.length/\∀ (j:Nat) (x y:D),xs[j]?=some x->ys[j]?=some y->∃ b,bs[j]?=some b/\f x y=some b
 | [],_,_,e=>by simp [eqZ] at e;subst e;exact ⟨by simp,fun j x y h=>by simp at h⟩
 | _::_,[],_,e=>by simp [eqZ] at e;subst e;exact ⟨by simp,fun j x y _ h=>by simp at h⟩
 | x::xs,y::ys,bs,e=>by
  unfold eqZ at e
  cases e1:f x y with
  | none=>rw [e1] at e;cases e
  | some b=>
   rw [e1] at e
   cases e2:eqZ f xs ys with
   | none=>rw [e2] at e;cases e
   | some cs=>
    rw [e2] at e
    cases e
    obtain ⟨h1,h2⟩:=eqZ.get e2
    refine ⟨by simp [h1],fun j=>?_⟩
    cases j with
    | zero=>intro x' y' hx hy;simp at hx hy;subst hx hy;exact ⟨b,rfl,e1⟩
    | succ j=>intro x' y' hx hy;exact h2 j x' y' (by simpa using hx) (by simpa using hy)
theorem oJ {bs:List Bool} {n:Nat} (h:bs.length=n):(List.range n).all (fun j=>bs.getD j true)=bs.all id:=by
 subst h
 rw [Bool.eq_iff_iff,List.all_eq_true,List.all_eq_true]
 constructor
 ·intro h b hb
  obtain ⟨i,hi,rfl⟩:=List.mem_iff_getElem.mp hb
  have:=h i (by simpa using hi)
  simpa [List.getD_eq_getElem?_getD,hi] using this
 ·intro h j hj
  have hj':j<bs.length:=by simpa using hj
  have:=h bs[j] (List.getElem_mem hj')
  simpa [List.getD_eq_getElem?_getD,hj'] using this
theorem dX:(Value.type "list":Value) ≠ .type "tuple":=by
 intro h
 injection h with h
 exact absurd h (by decide)
section
variable {X:Cx} {pins:List (Addr×Obj)} {σ:St} {G H:Hp} {s:Shared}
open SeqAt
theorem fU (I:Inv X pins σ H s) (sub:Same G H):∀ (n:Nat) (a b:D) (k:Bool) (x:V),eqD n a b=some k->Rep X.K G x a->Rep X.K G x b->k=true:=by
 intro n
 induction n with
 | zero=>intro a b k x e;cases e
 | succ n ih=>
  have sq:∀ (vs:List V) (xs ys:List D),Reps X.K G vs xs->Reps X.K G vs ys->∀ bs,eqZ (eqD n) xs ys=some bs->bs.all id=true:=by
   intro vs
   induction vs with
   | nil=>intro xs ys h1 h2 bs e;cases h1;cases h2;simp [eqZ] at e;subst e;rfl
   | cons v vs ihv=>
    intro xs ys h1 h2 bs e
    cases h1 with
    | cons r1 t1=>
     cases h2 with
     | cons r2 t2=>
      unfold eqZ at e
      rename_i d1 ds1 d2 ds2
      cases e1:eqD n d1 d2 with
      | none=>rw [e1] at e;cases e
      | some b=>
       rw [e1] at e
       cases e2:eqZ (eqD n) ds1 ds2 with
       | none=>rw [e2] at e;cases e
       | some cs=>
        rw [e2] at e
        cases e
        rw [List.all_cons,ih _ _ _ _ e1 r1 r2,ihv _ _ t1 t2 _ e2]
        rfl
  intro a b k x e ra rb
  cases ra with
  | non=>cases rb;simp [eqD] at e;exact e
  | bl y=>cases rb;simp [eqD] at e;exact e
  | int i=>cases rb;simp [eqD] at e;exact e
  | str y h=>
   cases rb with
   | str z h'=>simp [eqD] at e;exact e
  | tup h r=>
   cases rb with
   | tup h' r'=>
    have q:=I.tuple_inj (h.mono sub) (h'.mono sub)
    subst q
    simp only [eqD] at e
    rename_i ds es
    cases e2:eqZ (eqD n) ds es with
    | none=>rw [e2] at e;cases e
    | some cs=>
     rw [e2] at e
     have this:(cs.all id && ds.length==es.length)=k:=Option.some.inj e
     rw [sq _ _ _ r r' _ e2,Bool.true_and] at this
     rw [<- this,<- r.length,<- r'.length]
     simp
   | lst h' r'=>
    obtain ⟨its,_,⟨o,e1,c1,_⟩,_⟩:=I.tuple (h.mono sub)
    obtain ⟨_,its',n',_,e2⟩:=I.hok _ _ (sub _ _ h')
    rw [e1] at e2;cases e2;exact absurd c1 dX
   | fls h' r'=>
    obtain ⟨its,_,⟨o,e1,c1,_⟩,_⟩:=I.tuple (h.mono sub)
    obtain ⟨its',_,⟨o',n',e2,c2,_⟩,_⟩:=I.list (h'.mono sub)
    rw [e1] at e2;cases e2;rw [c1] at c2;exact absurd c2.symm dX
   | exc h'=>simp [eqD] at e
   | dct _ _ _=>simp [eqD] at e
  | lst h r=>
   have hl:SqL X.K G _ _:=SqL.of h
   cases rb with
   | tup h' r'=>
    obtain ⟨its,_,⟨o,e1,c1,_⟩,_⟩:=I.tuple (h'.mono sub)
    obtain ⟨_,its',n',_,e2⟩:=I.hok _ _ (sub _ _ h)
    rw [e1] at e2;cases e2;exact absurd c1 dX
   | lst h' r'=>
    rw [h] at h';cases h'
    simp only [eqD] at e
    rw [if_pos (by rw [<- r.length,<- r'.length])] at e
    rename_i ds es
    cases e2:eqZ (eqD n) ds es with
    | none=>rw [e2] at e;cases e
    | some cs=>rw [e2] at e;have:=Option.some.inj e;rw [<- this];exact sq _ _ _ r r' _ e2
   | fls h' r'=>
    have q:=I.list_inj (hl.mono sub) (h'.mono sub)
    subst q
    simp only [eqD] at e
    rw [if_pos (by rw [<- r.length,<- r'.length])] at e
    rename_i ds es
    cases e2:eqZ (eqD n) ds es with
    | none=>rw [e2] at e;cases e
    | some cs=>rw [e2] at e;have:=Option.some.inj e;rw [<- this];exact sq _ _ _ r r' _ e2
   | exc h'=>simp [eqD] at e
   | dct _ _ _=>simp [eqD] at e
  | fls h r=>
   cases rb with
   | tup h' r'=>
    obtain ⟨its,_,⟨o,e1,c1,_⟩,_⟩:=I.tuple (h'.mono sub)
    obtain ⟨its',_,⟨o',n',e2,c2,_⟩,_⟩:=I.list (h.mono sub)
    rw [e1] at e2;cases e2;rw [c1] at c2;exact absurd c2.symm dX
   | lst h' r'=>
    have q:=I.list_inj (h.mono sub) ((SqL.of h':SqL X.K G _ _).mono sub)
    subst q
    simp only [eqD] at e
    rw [if_pos (by rw [<- r.length,<- r'.length])] at e
    rename_i ds es
    cases e2:eqZ (eqD n) ds es with
    | none=>rw [e2] at e;cases e
    | some cs=>rw [e2] at e;have:=Option.some.inj e;rw [<- this];exact sq _ _ _ r r' _ e2
   | fls h' r'=>
    have q:=I.list_inj (h.mono sub) (h'.mono sub)
    subst q
    simp only [eqD] at e
    rw [if_pos (by rw [<- r.length,<- r'.length])] at e
    rename_i ds es
    cases e2:eqZ (eqD n) ds es with
    | none=>rw [e2] at e;cases e
    | some cs=>rw [e2] at e;have:=Option.some.inj e;rw [<- this];exact sq _ _ _ r r' _ e2
   | exc h'=>simp [eqD] at e
   | dct _ _ _=>simp [eqD] at e
  | exc h=>simp [eqD] at e
  | dct _ _ _=>simp [eqD] at e
structure Eqs (A:Around) (s:Shared) (v u:Value) (k:Bool):Prop where
 eq:EqAt A s v u k
 rc:RcAt A s v u k
 ne:RcNeAt A s v u (!k)
theorem jc {f:Bool} {x:V} (I:Inv X pins σ H s) (sub:Same G H) (r:Rep X.K G x (.lst f ds)) (ru:RelV x u):∃ a its vs,u=.ref a/\s.heap.IsList a (List.toArray its)/\Vals vs its/\Reps X.K G vs ds:=by
 obtain ⟨a,vs,rfl,h,t⟩:=r.seq_inv
 cases ru
 obtain ⟨its,rv,⟨o,n,e1,c1,_,d1⟩,_⟩:=I.list (h.mono sub)
 exact ⟨a,its,vs,rfl,⟨o,e1,c1,n,d1⟩,rv,t⟩
theorem mB {x:V} (I:Inv X pins σ H s) (sub:Same G H) (r:Rep X.K G x (.tup ds)) (ru:RelV x u):∃ a its vs,u=.ref a/\s.heap.IsTuple a (List.toArray its)/\Vals vs its/\Reps X.K G vs ds:=by
 obtain ⟨a,vs,rfl,h,t⟩:=r.tup_inv
 cases ru
 obtain ⟨its,rv,p,_⟩:=I.tuple (h.mono sub)
 exact ⟨a,its,vs,rfl,p,rv,t⟩
theorem Bm (I:Inv X pins σ H s) (sub:Same G H):∀ (n:Nat) (A:Around) (a b:D) (k:Bool) (x y:V) (v u:Value),A.units+n<cLine->eqD n a b=some k->Rep X.K G x a->Rep X.K G y b->RelV x v->RelV y u->Eqs A s v u k:=by
 intro n
 induction n with
 | zero=>intro A a b k x y v u _ e;cases e
 | succ n ih=>
  have sq:∀ (A:Around) (vs ws:List V) (xs ys:List D) (is js:List Value) (bs:List Bool),A.units+(n+1)<cLine->Reps X.K G vs xs->Reps X.K G ws ys->Vals vs is->Vals ws js->eqZ (eqD n) xs ys=some bs->
    bs.length=min is.length js.length/\∀ j (h1:j<is.toArray.size) (h2:j<js.toArray.size),EqAt A.in1 s is.toArray[j] js.toArray[j] (bs.getD j true):=by
   intro A vs ws xs ys is js bs hA r1 r2 v1 v2 e
   obtain ⟨h1,h2⟩:=eqZ.get e
   refine ⟨by rw [h1,<- r1.length,<- r2.length,v1.length,v2.length],fun j q1 q2=>?_⟩
   rw [List.size_toArray] at q1 q2
   have p1:j<xs.length:=by rw [<- r1.length,v1.length];exact q1
   have p2:j<ys.length:=by rw [<- r2.length,v2.length];exact q2
   obtain ⟨b,e1,e2⟩:=h2 j xs[j] ys[j] (by simp [p1]) (by simp [p2])
   obtain ⟨x',ex,rx⟩:=r1.get (i:=j) (d:=xs[j]) (by simp [p1])
   obtain ⟨y',ey,ry⟩:=r2.get (i:=j) (d:=ys[j]) (by simp [p2])
   obtain ⟨u1,eu1,ru1⟩:=v1.get ex
   obtain ⟨u2,eu2,ru2⟩:=v2.get ey
   have g1:is.toArray[j]=u1:=by simpa [q1] using eu1
   have g2:js.toArray[j]=u2:=by simpa [q2] using eu2
   rw [List.getD_eq_getElem?_getD,e1]
   simp only [List.getElem_toArray] at g1 g2 ⊢
   rw [g1,g2]
   exact (ih A.in1 _ _ b x' y' u1 u2 (by show A.units+1+n<cLine;omega) e2 rx ry ru1 ru2).eq
  intro A a b k x y v u hA e ra rb rv ru
  have hu:A.units<cLine:=by omega
  have same:∀ c d:Addr,v=.ref c->u=.ref d->c=d->k=true:=fun c d h1 h2 h3=>by
   subst h1 h2 h3
   cases ra with
   | tup h r=>cases rv;cases rb with
    | tup h' r'=>cases ru;exact fU I sub (n+1) _ _ k _ e (.tup h r) (.tup h' r')
    | lst h' r'=>cases ru;exact fU I sub (n+1) _ _ k _ e (.tup h r) (.lst h' r')
    | fls h' r'=>cases ru;exact fU I sub (n+1) _ _ k _ e (.tup h r) (.fls h' r')
    | exc h'=>simp [eqD] at e
    | dct _ _ _=>simp [eqD] at e
    | str _ _=>obtain ⟨t,z⟩:=ru;cases z
    | int _=>obtain ⟨t,z⟩:=ru;cases z
    | non=>cases ru
    | bl _=>cases ru
   | lst h r=>cases rv;cases rb with
    | tup h' r'=>cases ru;exact fU I sub (n+1) _ _ k _ e (.lst h r) (.tup h' r')
    | lst h' r'=>cases ru;exact fU I sub (n+1) _ _ k _ e (.lst h r) (.lst h' r')
    | fls h' r'=>cases ru;exact fU I sub (n+1) _ _ k _ e (.lst h r) (.fls h' r')
    | exc h'=>simp [eqD] at e
    | dct _ _ _=>simp [eqD] at e
    | str _ _=>obtain ⟨t,z⟩:=ru;cases z
    | int _=>obtain ⟨t,z⟩:=ru;cases z
    | non=>cases ru
    | bl _=>cases ru
   | fls h r=>cases rv;cases rb with
    | tup h' r'=>cases ru;exact fU I sub (n+1) _ _ k _ e (.fls h r) (.tup h' r')
    | lst h' r'=>cases ru;exact fU I sub (n+1) _ _ k _ e (.fls h r) (.lst h' r')
    | fls h' r'=>cases ru;exact fU I sub (n+1) _ _ k _ e (.fls h r) (.fls h' r')
    | exc h'=>simp [eqD] at e
    | dct _ _ _=>simp [eqD] at e
    | str _ _=>obtain ⟨t,z⟩:=ru;cases z
    | int _=>obtain ⟨t,z⟩:=ru;cases z
    | non=>cases ru
    | bl _=>cases ru
   | exc h=>simp [eqD] at e
   | dct _ _ _=>simp [eqD] at e
   | str _ _=>obtain ⟨t,z⟩:=rv;cases z
   | int _=>obtain ⟨t,z⟩:=rv;cases z
   | non=>cases rv
   | bl _=>cases rv
  have refs:∀ c d:Addr,v=.ref c->u=.ref d->RcAt A s v u k->EqAt A s v u k:=fun c d h1 h2 h=>by
   subst h1 h2
   by_cases h3:c=d
   ·have:=same c d rfl rfl h3
    subst h3 this
    exact EqAt.same _
   ·exact EqAt.of_refs h3 h
  cases a with
  | exc C=>simp [eqD] at e
  | dct _ _=>simp [eqD] at e
  | non=>
   obtain rfl:=ra.non_inv
   cases rv
   cases b with
   | exc C=>simp [eqD] at e
   | dct _ _=>simp [eqD] at e
   | non=>obtain rfl:=rb.non_inv;cases ru;simp [eqD] at e;subst e;exact ⟨EqAt.same _,RcAt.none_none,RcNeAt.none_none⟩
   | bl z=>obtain rfl:=rb.bl_inv;cases ru;simp [eqD] at e;subst e;exact ⟨EqAt.none_bool _,RcAt.none_bool _,RcNeAt.none_bool _⟩
   | int z=>obtain rfl:=rb.int_inv;obtain ⟨t,rfl⟩:=ru;simp [eqD] at e;subst e;exact ⟨EqAt.none_int _ _,RcAt.none_int _ _,RcNeAt.none_int _ _⟩
   | str z=>obtain ⟨z,rfl,-,-⟩:=rb.str_inv;obtain ⟨t,rfl⟩:=ru;simp [eqD] at e;subst e;exact ⟨EqAt.none_str _ _,RcAt.none_str _ _,RcNeAt.none_str _ _⟩
   | tup ds=>obtain ⟨c,its,vs,rfl,p,_,_⟩:=mB I sub rb ru;simp [eqD] at e;subst e;exact ⟨EqAt.none_tuple p hu,RcAt.none_tuple p hu,RcNeAt.none_tuple p hu⟩
   | lst f ds=>obtain ⟨c,its,vs,rfl,p,_,_⟩:=jc I sub rb ru;simp [eqD] at e;subst e;exact ⟨EqAt.none_list p hu,RcAt.none_list p hu,RcNeAt.none_list p hu⟩
  | bl w=>
   obtain rfl:=ra.bl_inv
   cases rv
   cases b with
   | exc C=>simp [eqD] at e
   | dct _ _=>simp [eqD] at e
   | non=>obtain rfl:=rb.non_inv;cases ru;simp [eqD] at e;subst e;exact ⟨EqAt.bool_none _,RcAt.bool_none _,RcNeAt.bool_none _⟩
   | bl z=>obtain rfl:=rb.bl_inv;cases ru;simp only [eqD] at e;cases e;exact ⟨EqAt.bool_bool _ _,RcAt.bool_bool _ _,RcNeAt.bool_bool _ _⟩
   | int z=>obtain rfl:=rb.int_inv;obtain ⟨t,rfl⟩:=ru;simp only [eqD] at e;cases e;exact ⟨EqAt.bool_int _ _ _,RcAt.bool_int _ _ _,RcNeAt.bool_int _ _ _⟩
   | str z=>obtain ⟨z,rfl,-,-⟩:=rb.str_inv;obtain ⟨t,rfl⟩:=ru;simp [eqD] at e;subst e;exact ⟨EqAt.bool_str _ _ _,RcAt.bool_str _ _ _,RcNeAt.bool_str _ _ _⟩
   | tup ds=>obtain ⟨c,its,vs,rfl,p,_,_⟩:=mB I sub rb ru;simp [eqD] at e;subst e;exact ⟨EqAt.bool_tuple _ p hu,RcAt.bool_tuple _ p hu,RcNeAt.bool_tuple _ p hu⟩
   | lst f ds=>obtain ⟨c,its,vs,rfl,p,_,_⟩:=jc I sub rb ru;simp [eqD] at e;subst e;exact ⟨EqAt.bool_list _ p hu,RcAt.bool_list _ p hu,RcNeAt.bool_list _ p hu⟩
  | int w=>
   obtain rfl:=ra.int_inv
   obtain ⟨t0,rfl⟩:=rv
   cases b with
   | exc C=>simp [eqD] at e
   | dct _ _=>simp [eqD] at e
   | non=>obtain rfl:=rb.non_inv;cases ru;simp [eqD] at e;subst e;exact ⟨EqAt.int_none _ _,RcAt.int_none _ _,RcNeAt.int_none _ _⟩
   | bl z=>obtain rfl:=rb.bl_inv;cases ru;simp only [eqD] at e;cases e;exact ⟨EqAt.int_bool _ _ _,RcAt.int_bool _ _ _,RcNeAt.int_bool _ _ _⟩
   | int z=>obtain rfl:=rb.int_inv;obtain ⟨t,rfl⟩:=ru;simp only [eqD] at e;cases e;exact ⟨EqAt.int_int _ _ _ _,RcAt.int_int _ _ _ _,RcNeAt.int_int _ _ _ _⟩
   | str z=>obtain ⟨z,rfl,-,-⟩:=rb.str_inv;obtain ⟨t,rfl⟩:=ru;simp [eqD] at e;subst e;exact ⟨EqAt.int_str _ _ _ _,RcAt.int_str _ _ _ _,RcNeAt.int_str _ _ _ _⟩
   | tup ds=>obtain ⟨c,its,vs,rfl,p,_,_⟩:=mB I sub rb ru;simp [eqD] at e;subst e;exact ⟨EqAt.int_tuple _ _ p hu,RcAt.int_tuple _ _ p hu,RcNeAt.int_tuple _ _ p hu⟩
   | lst f ds=>obtain ⟨c,its,vs,rfl,p,_,_⟩:=jc I sub rb ru;simp [eqD] at e;subst e;exact ⟨EqAt.int_list _ _ p hu,RcAt.int_list _ _ p hu,RcNeAt.int_list _ _ p hu⟩
  | str w=>
   obtain ⟨w,rfl,ew,-⟩:=ra.str_inv
   obtain ⟨t0,rfl⟩:=rv
   cases b with
   | exc C=>simp [eqD] at e
   | dct _ _=>simp [eqD] at e
   | non=>obtain rfl:=rb.non_inv;cases ru;simp [eqD] at e;subst e;exact ⟨EqAt.str_none _ _,RcAt.str_none _ _,RcNeAt.str_none _ _⟩
   | bl z=>obtain rfl:=rb.bl_inv;cases ru;simp [eqD] at e;subst e;exact ⟨EqAt.str_bool _ _ _,RcAt.str_bool _ _ _,RcNeAt.str_bool _ _ _⟩
   | int z=>obtain rfl:=rb.int_inv;obtain ⟨t,rfl⟩:=ru;simp [eqD] at e;subst e;exact ⟨EqAt.str_int _ _ _ _,RcAt.str_int _ _ _ _,RcNeAt.str_int _ _ _ _⟩
   | str z=>
    obtain ⟨z,rfl,ez,-⟩:=rb.str_inv;obtain ⟨t,rfl⟩:=ru
    simp only [eqD] at e
    subst ew ez
    rw [str_beq] at e
    cases e
    exact ⟨EqAt.str_str _ _ _ _,RcAt.str_str _ _ _ _,RcNeAt.str_str _ _ _ _⟩
   | tup ds=>obtain ⟨c,its,vs,rfl,p,_,_⟩:=mB I sub rb ru;simp [eqD] at e;subst e;exact ⟨EqAt.str_tuple _ _ p hu,RcAt.str_tuple _ _ p hu,RcNeAt.str_tuple _ _ p hu⟩
   | lst f ds=>obtain ⟨c,its,vs,rfl,p,_,_⟩:=jc I sub rb ru;simp [eqD] at e;subst e;exact ⟨EqAt.str_list _ _ p hu,RcAt.str_list _ _ p hu,RcNeAt.str_list _ _ p hu⟩
  | tup ds1=>
   obtain ⟨c1,its1,vs1,rfl,p1,w1,q1⟩:=mB I sub ra rv
   cases b with
   | exc C=>simp [eqD] at e
   | dct _ _=>simp [eqD] at e
   | non=>obtain rfl:=rb.non_inv;cases ru;simp [eqD] at e;subst e;exact ⟨EqAt.tuple_none p1 hu,RcAt.tuple_none p1 hu,RcNeAt.tuple_none p1 hu⟩
   | bl z=>obtain rfl:=rb.bl_inv;cases ru;simp [eqD] at e;subst e;exact ⟨EqAt.tuple_bool _ p1 hu,RcAt.tuple_bool _ p1 hu,RcNeAt.tuple_bool _ p1 hu⟩
   | int z=>obtain rfl:=rb.int_inv;obtain ⟨t,rfl⟩:=ru;simp [eqD] at e;subst e;exact ⟨EqAt.tuple_int _ _ p1 hu,RcAt.tuple_int _ _ p1 hu,RcNeAt.tuple_int _ _ p1 hu⟩
   | str z=>obtain ⟨z,rfl,-,-⟩:=rb.str_inv;obtain ⟨t,rfl⟩:=ru;simp [eqD] at e;subst e;exact ⟨EqAt.tuple_str _ _ p1 hu,RcAt.tuple_str _ _ p1 hu,RcNeAt.tuple_str _ _ p1 hu⟩
   | lst f ds=>obtain ⟨c,its,vs,rfl,p,_,_⟩:=jc I sub rb ru;simp [eqD] at e;subst e;exact ⟨EqAt.tuple_list p1 p hu,RcAt.tuple_list p1 p hu,RcNeAt.tuple_list p1 p hu⟩
   | tup ds2=>
    obtain ⟨c2,its2,vs2,rfl,p2,w2,q2⟩:=mB I sub rb ru
    simp only [eqD] at e
    cases e2:eqZ (eqD n) ds1 ds2 with
    | none=>rw [e2] at e;cases e
    | some bs=>
     rw [e2] at e
     have ek:=Option.some.inj e
     obtain ⟨hl,he⟩:=sq A _ _ _ _ _ _ bs hA q1 q2 w1 w2 e2
     have e3:((List.range (min its1.toArray.size its2.toArray.size)).all (fun j=>bs.getD j true) && its1.toArray.size==its2.toArray.size)=k:=by
      rw [<- ek,List.size_toArray,List.size_toArray,oJ hl,<- w1.length,<- w2.length,q1.length,q2.length]
     have hrc:RcAt A s (.ref c1) (.ref c2) k:=by rw [<- e3];exact RcAt.tuples p1 p2 hu he
     have hne:RcNeAt A s (.ref c1) (.ref c2) (!k):=by rw [<- e3];exact RcNeAt.tuples p1 p2 hu he
     exact ⟨refs _ _ rfl rfl hrc,hrc,hne⟩
  | lst f1 ds1=>
   obtain ⟨c1,its1,vs1,rfl,p1,w1,q1⟩:=jc I sub ra rv
   cases b with
   | exc C=>simp [eqD] at e
   | dct _ _=>simp [eqD] at e
   | non=>obtain rfl:=rb.non_inv;cases ru;simp [eqD] at e;subst e;exact ⟨EqAt.list_none p1 hu,RcAt.list_none p1 hu,RcNeAt.list_none p1 hu⟩
   | bl z=>obtain rfl:=rb.bl_inv;cases ru;simp [eqD] at e;subst e;exact ⟨EqAt.list_bool _ p1 hu,RcAt.list_bool _ p1 hu,RcNeAt.list_bool _ p1 hu⟩
   | int z=>obtain rfl:=rb.int_inv;obtain ⟨t,rfl⟩:=ru;simp [eqD] at e;subst e;exact ⟨EqAt.list_int _ _ p1 hu,RcAt.list_int _ _ p1 hu,RcNeAt.list_int _ _ p1 hu⟩
   | str z=>obtain ⟨z,rfl,-,-⟩:=rb.str_inv;obtain ⟨t,rfl⟩:=ru;simp [eqD] at e;subst e;exact ⟨EqAt.list_str _ _ p1 hu,RcAt.list_str _ _ p1 hu,RcNeAt.list_str _ _ p1 hu⟩
   | tup ds=>obtain ⟨c,its,vs,rfl,p,_,_⟩:=mB I sub rb ru;simp [eqD] at e;subst e;exact ⟨EqAt.list_tuple p1 p hu,RcAt.list_tuple p1 p hu,RcNeAt.list_tuple p1 p hu⟩
   | lst f2 ds2=>
    obtain ⟨c2,its2,vs2,rfl,p2,w2,q2⟩:=jc I sub rb ru
    simp only [eqD] at e
    by_cases hlen:ds1.length=ds2.length
    ·rw [if_pos hlen] at e
     cases e2:eqZ (eqD n) ds1 ds2 with
     | none=>rw [e2] at e;cases e
     | some bs=>
      rw [e2] at e
      have ek:=Option.some.inj e
      obtain ⟨hl,he⟩:=sq A _ _ _ _ _ _ bs hA q1 q2 w1 w2 e2
      have hz:its1.toArray.size=its2.toArray.size:=by rw [List.size_toArray,List.size_toArray,<- w1.length,<- w2.length,q1.length,q2.length];exact hlen
      have e3:(List.range its1.toArray.size).all (fun j=>bs.getD j true)=k:=by
       rw [<- ek,oJ]
       rw [hl,List.size_toArray]
       simp only [List.size_toArray] at hz
       omega
      have hrc:RcAt A s (.ref c1) (.ref c2) k:=by rw [<- e3];exact RcAt.lists p1 p2 hz hu he
      have hne:RcNeAt A s (.ref c1) (.ref c2) (!k):=by rw [<- e3];exact RcNeAt.lists p1 p2 hz hu he
      exact ⟨refs _ _ rfl rfl hrc,hrc,hne⟩
    ·rw [if_neg hlen] at e
     cases e
     have hz:(its1.toArray.size != its2.toArray.size)=true:=by
      rw [List.size_toArray,List.size_toArray,<- w1.length,<- w2.length,q1.length,q2.length]
      simpa using hlen
     have hrc:RcAt A s (.ref c1) (.ref c2) false:=RcAt.lists_lengths p1 p2 hz hu
     exact ⟨refs _ _ rfl rfl hrc,hrc,RcNeAt.lists_lengths p1 p2 hz hu⟩
end
section
variable {X:Cx} {a b:Expr} {ga gb:Ev->R D} {pos:Pos}
def eqF (x y:D):Option D:=(eqD 40 x y).map .bl
def neF (x y:D):Option D:=(eqD 40 x y).map fun k=>.bl (!k)
noncomputable def Kl (K:PySem.W.Frag) (neg:Bool):R2:=fun x y H Q=>∃ G dx dy k,Same G H/\Rep K G x dx/\Rep K G y dy/\eqD 40 dx dy=some k/\Q (.bl (if neg then !k else k)) H
theorem DD (hu:X.A.units+64<cLine):OpR X (compareOp .Eq) (Kl X.K false):=by
 intro pins s σ H x y v u Q I rx ry h
 obtain ⟨G,dx,dy,k,sub,r1,r2,e,q⟩:=h
 exact (Bm I sub 40 X.A dx dy k x y v u (by omega) e r1 r2 rx ry).rc _ _ _ _ ⟨.bl k,H,I,rfl,q⟩
theorem IJ (hu:X.A.units+64<cLine):OpR X (compareOp .NotEq) (Kl X.K true):=by
 intro pins s σ H x y v u Q I rx ry h
 obtain ⟨G,dx,dy,k,sub,r1,r2,e,q⟩:=h
 exact (Bm I sub 40 X.A dx dy k x y v u (by omega) e r1 r2 rx ry).ne _ _ _ _ ⟨.bl (!k),H,I,rfl,q⟩
end
end L2
namespace L2
open PySem PySem.Spec PyProof.Rows
section
variable {X:Cx} {a b c e:Expr} {es cJ:List Expr} {ga gb gc:Ev->R D} {gt gu:Ev->R Bool} {gl:Ev->R (List D)} {pos:Pos}
noncomputable def isD:D->D->Option Bool
 | .non,.non=>some true
 | _,.non=>some false
 | .bl x,.bl y=>some (x==y)
 | _,_=>none
def isF (x y:D):Option D:=(isD x y).map .bl
noncomputable def rIs (neg:Bool):R2:=fun x y H Q=>(y=.non/\Q (.bl (if neg then !decide (x=.non) else decide (x=.non))) H)\/∃ i j,x=.bl i/\y=.bl j/\Q (.bl (if neg then !(i==j) else (i==j))) H
theorem Jg:OpR X (compareOp .Is) (rIs false):=op_isN.or (r':=fun x y H Q=>∃ i j,x=.bl i/\y=.bl j/\Q (.bl (i==j)) H) (by
 intro pins s σ H x y v u Q I rx ry h
 obtain ⟨i,j,rfl,rfl,q⟩:=h
 cases rx
 cases ry
 exact is_bool ⟨.bl _,H,I,rfl,q⟩)
theorem J6 (K:PySem.W.Frag) (neg:Bool):ROk K (rIs neg) (fun x y=>(isD x y).map fun k=>.bl (if neg then !k else k)):=by
 intro G H x y dx dy d Q s rx ry e q
 dsimp only at e
 cases e1:isD dx dy with
 | none=>rw [e1] at e;cases e
 | some k=>
  rw [e1] at e
  have ed:D.bl (if neg=true then !k else k)=d:=Option.some.inj e
  subst ed
  unfold isD at e1
  split at e1
  ·cases e1
   exact .inl ⟨ry.non_inv,by rw [rx.non_inv];exact q _ G H (.refl s) (.bl _)⟩
  ·rename_i hx
   cases e1
   have hn:x ≠ .non:=fun z=>by subst z;cases rx;exact hx rfl
   refine .inl ⟨ry.non_inv,?_⟩
   rw [decide_eq_false hn]
   exact q _ G H (.refl s) (.bl _)
  ·cases e1
   exact .inr ⟨_,_,rx.bl_inv,ry.bl_inv,q _ G H (.refl s) (.bl _)⟩
  ·cases e1
def asB:D->R Bool
 | .bl k=>.ok k
 | _=>.no
noncomputable def oX (ga gb:Ev->R D):Ev->R D:=fun ρ=>ga ρ>>=fun x=>asB x>>=fun k=>if k=true then gb ρ else .ok (.bl false)
noncomputable def gOr (ga gb:Ev->R D):Ev->R D:=fun ρ=>ga ρ>>=fun x=>asB x>>=fun k=>if k=true then .ok (.bl true) else gb ρ
noncomputable def K4 (ga:Ev->R D):Ev->R D:=fun ρ=>ga ρ>>=fun x=>asB x>>=fun k=>.ok (.bl (!k))
theorem asB.ok {β:Type} {K:PySem.W.Frag} {k:Bool->R β} {P:β->Prop} {E:Addr->Prop} (r:Rep K G v d) (h:(asB d>>=k).post P E):∃ c,v=.bl c/\d=.bl c/\(k c).post P E:=by
 cases r with
 | bl c=>exact ⟨c,rfl,rfl,h⟩
 | _=>exact h.elim
def CA:D->R D
 | .int i=>.ok (.int (-i))
 | _=>.no
theorem CM (ha:QF X a ga):QF X (.UnaryOp .USub a pos) (fun ρ=>ga ρ>>=CA):=by
 intro pins s σ H Q I h
 refine Lw JA ha pins s σ H Q I ?_
 obtain ⟨G,ρ,st,h⟩:=h
 refine tG.intro st h fun x v G1 H1 u1 st1 r1 h1=>?_
 cases r1 with
 | int i=>exact ⟨i,rfl,h1 _ G1 H1 (.refl st1.sub) (.int _)⟩
 | _=>exact h1.elim
noncomputable def kn:D->R Bool
 | .non=>.ok false
 | .bl k=>.ok k
 | .int i=>.ok (i != 0)
 | .str x=>.ok (!x.isEmpty)
 | .tup xs=>.ok (!xs.isEmpty)
 | .lst _ xs=>.ok (!xs.isEmpty)
 | .exc _=>.no
 | .dct _ _=>.no
theorem Reps.isEmpty {K:PySem.W.Frag} (r:Reps K G vs ds):vs.isEmpty=ds.isEmpty:=by cases r <;> rfl
theorem pS (h:QF X e ga) (he:∀ whole,isTrue e X.env whole=(do let v <- whole;standAt e.pos;holding [v] (truthy v)):=by intro _;rfl):QB X e (fun ρ=>ga ρ>>=kn):=by
 intro pins s σ H Q I hq
 refine BO h he pins s σ H Q I ?_
 obtain ⟨G,ρ,st,hq⟩:=hq
 refine tG.intro st hq fun x v G1 H1 u1 st1 r1 h1=>?_
 have fin:∀ k,kn x=.ok k->Q k H1:=fun k ek=>by rw [ek] at h1;exact h1 k G1 H1 (.refl st1.sub) rfl
 cases r1 with
 | non=>exact ⟨_,rfl,fin _ rfl⟩
 | bl k=>exact ⟨_,rfl,fin _ rfl⟩
 | int i=>exact ⟨_,rfl,fin _ rfl⟩
 | str y hy=>
  refine ⟨_,⟨hy,rfl⟩,fin _ ?_⟩
  show R.ok _=R.ok _
  congr 1
  have:y.cps.toList.length=y.length:=Str.len_list y
  cases h:y.cps.toList with
  | nil=>rw [h] at this;rw [<- this];rfl
  | cons c cs=>rw [h] at this;rw [<- this];simp;omega
 | tup h r=>exact ⟨_,.inr (.inl ⟨_,h.mono st1.sub,rfl⟩),fin _ (by show R.ok _=R.ok _;rw [r.isEmpty])⟩
 | lst h r=>exact ⟨_,.inl ⟨_,.of (st1.sub _ _ h),rfl⟩,fin _ (by show R.ok _=R.ok _;rw [r.isEmpty])⟩
 | fls h r=>exact ⟨_,.inl ⟨_,h.mono st1.sub,rfl⟩,fin _ (by show R.ok _=R.ok _;rw [r.isEmpty])⟩
 | _=>exact h1.elim
theorem fV {op:CmpOp} {r:R2} {f:D->D->Option D} (ho:OpR X (compareOp op) r) (hf:ROk X.K r f) (ha:QF X a ga) (hb:QF X b gb) (hm:behindInMarks op b=false):QB X (.Compare a [op] [b] pos) (fun ρ=>g2 f ga gb ρ>>=asB):=by
 intro pins s σ H Q I h
 refine vm ho ha hb hm pins s σ H Q I ?_
 obtain ⟨G,ρ,st,h⟩:=h
 refine BP hf ?_
 refine tG.intro st h fun x v G1 H1 u1 st1 r1 h1=>?_
 cases r1 with
 | bl k=>exact ⟨k,rfl,h1 k G1 H1 (.refl st1.sub) rfl⟩
 | _=>exact h1.elim
theorem ER (ha:QF X a ga) (hb:QF X b gb):QB X (.Compare a [.Lt] [b] pos) (fun ρ=>g2 ltD ga gb ρ>>=asB):=fV Ip (KO _) ha hb (jP _)
theorem FE (ha:QF X a ga) (hb:QF X b gb):QB X (.Compare a [.LtE] [b] pos) (fun ρ=>g2 leD ga gb ρ>>=asB):=fV pA (ym _) ha hb (jP _)
theorem FM (ha:QF X a ga) (hb:QF X b gb):QB X (.Compare a [.Gt] [b] pos) (fun ρ=>g2 gtD ga gb ρ>>=asB):=fV KZ (J1 _) ha hb (jP _)
theorem Dv (K:PySem.W.Frag) (neg:Bool):ROk K (Kl K neg) (fun x y=>(eqD 40 x y).map fun k=>.bl (if neg then !k else k)):=by
 intro G H x y dx dy d Q s rx ry e q
 dsimp only at e
 cases e1:eqD 40 dx dy with
 | none=>rw [e1] at e;cases e
 | some k=>rw [e1] at e;cases e;exact ⟨G,dx,dy,k,s,rx,ry,e1,q _ G H (.refl s) (.bl _)⟩
theorem FP (hu:X.A.units+64<cLine) (ha:QF X a ga) (hb:QF X b gb):QB X (.Compare a [.Eq] [b] pos) (fun ρ=>g2 eqF ga gb ρ>>=asB):=fV (DD hu) (Dv _ false) ha hb (jP _)
theorem Ff (hu:X.A.units+64<cLine) (ha:QF X a ga) (hb:QF X b gb):QB X (.Compare a [.NotEq] [b] pos) (fun ρ=>g2 neF ga gb ρ>>=asB):=fV (IJ hu) (Dv _ true) ha hb (jP _)
theorem E1 (ha:QF X a ga) (hb:QF X b gb):QB X (.Compare a [.Is] [b] pos) (fun ρ=>g2 isF ga gb ρ>>=asB):=fV Jg (J6 _ false) ha hb (jP _)
theorem yN {op op':CmpOp} {r r':R2} {f f':D->D->Option D} (ho:OpR X (compareOp op) r) (ho':OpR X (compareOp op') r') (hf:ROk X.K r f) (hf':ROk X.K r' f') (ha:QF X a ga) (hb:QF X b gb) (hc:QF X c gc)
 (hm:lastMarks [op,op'] [b,c]=false:=by with_unfolding_all rfl):QB X (.Compare a [op,op'] [b,c] pos) (fun ρ=>g3 f f' ga gb gc ρ>>=asB):=by
 intro pins s σ H Q I h
 refine Dg ho ho' ha hb hc hm pins s σ H Q I ?_
 obtain ⟨G,ρ,st,h⟩:=h
 have h':(ga ρ>>=fun x=>gb ρ>>=fun y=>ofO (f x y)>>=fun z=>(match z with|.bl true=>gc ρ>>=fun w=>ofO (f' y w)|.bl false=>.ok (.bl false)|_=>.no)>>=asB).post (Fin G H (fun _ b c=>b=c) Q) (Exx X σ G H):=by
  have e:(g3 f f' ga gb gc ρ>>=asB)=(ga ρ>>=fun x=>gb ρ>>=fun y=>ofO (f x y)>>=fun z=>(match z with|.bl true=>gc ρ>>=fun w=>ofO (f' y w)|.bl false=>.ok (.bl false)|_=>.no)>>=asB):=by
   unfold g3
   cases ga ρ with
   | ok x=>cases gb ρ with
    | ok y=>simp only [R.ok_bind];cases ofO (f x y) <;> rfl
    | _=>rfl
   | _=>rfl
  rw [<- e];exact h
 refine tG.intro st h' fun x v G1 H1 u1 st1 r1 h1=>?_
 refine tG.intro st1 h1 fun y w G2 H2 u2 st2 r2 h2=>?_
 cases e:f x y with
 | none=>rw [e] at h2;exact h2.elim
 | some d=>
  rw [e] at h2
  refine hf G2 H2 v w x y d _ st2.sub (r1.mono u2.gg) r2 e fun z G3 H3 u3 r3=>?_
  have h3:=qq u3 h2
  have st3:=st2.up u3
  cases r3 with
  | bl k=>
   refine ⟨k,rfl,?_⟩
   cases k with
   | false=>rw [if_neg Bool.false_ne_true];exact ⟨false,rfl,h3 _ G3 H3 (.refl st3.sub) rfl⟩
   | true=>
    rw [if_pos rfl]
    have h3':(gc ρ>>=fun w=>ofO (f' y w)>>=asB).post (Fin G3 H3 (fun _ b c=>b=c) Q) (Exx X σ G3 H3):=by
     have e:((gc ρ>>=fun w=>ofO (f' y w))>>=asB)=(gc ρ>>=fun w=>ofO (f' y w)>>=asB):=by cases gc ρ <;> rfl
     rw [<- e];exact h3
    refine tG.intro st3 h3' fun q vq G4 H4 u4 st4 r4 h4=>?_
    cases e':f' y q with
    | none=>rw [e'] at h4;exact h4.elim
    | some d'=>
     rw [e'] at h4
     refine hf' G4 H4 w vq y q d' _ st4.sub ((r2.mono u3.gg).mono u4.gg) r4 e' fun z' G5 H5 u5 r5=>?_
     have h5:=qq u5 h4
     cases r5 with
     | bl k'=>exact ⟨k',rfl,h5 k' G5 H5 (.refl u5.sub) rfl⟩
     | _=>exact h5.elim
  | _=>exact h3.elim
theorem Ab (ha:QF X a ga) (hb:QF X b gb) (hc:QF X c gc) (hm:lastMarks [.LtE,.LtE] [b,c]=false:=by with_unfolding_all rfl):QB X (.Compare a [.LtE,.LtE] [b,c] pos) (fun ρ=>g3 leD leD ga gb gc ρ>>=asB):=yN pA pA (ym _) (ym _) ha hb hc hm
noncomputable def BN (t u:Ev->R Bool):Ev->R Bool:=fun ρ=>t ρ>>=fun k=>if k=true then u ρ else .ok false
noncomputable def ud (t u:Ev->R Bool):Ev->R Bool:=fun ρ=>t ρ>>=fun k=>if k=true then .ok true else u ρ
theorem Cm (ha:QB X a gt):QB X (.UnaryOp .Not a pos) (fun ρ=>gt ρ>>=fun k=>.ok (!k)):=by
 intro pins s σ H Q I h
 refine IM ha pins s σ H Q I ?_
 obtain ⟨G,ρ,st,h⟩:=h
 refine tG.intro st h fun x v G1 H1 u1 st1 r1 h1=>?_
 subst r1
 exact h1 _ G1 H1 (.refl st1.sub) rfl
noncomputable def gIf (gt:Ev->R Bool) (ga gb:Ev->R D):Ev->R D:=fun ρ=>gt ρ>>=fun k=>if k=true then ga ρ else gb ρ
theorem tK:QFA X [] (fun _=>.ok []):=by
 intro pos pins s σ H Q I h
 obtain ⟨G,ρ,st,h⟩:=h
 exact jG pos pins s σ H Q I (h [] G H (.refl st.sub) .nil)
theorem yM (ha:QF X e ga) (hr:QFA X es gl) (hs:starEach (e::es) X.env=(false,eval e X.env)::starEach es X.env:=by rfl):QFA X (e::es) (fun ρ=>ga ρ>>=fun x=>gl ρ>>=fun xs=>.ok (x::xs)):=by
 intro pos pins s σ H Q I h
 refine dh ha hr hs pos pins s σ H Q I ?_
 obtain ⟨G,ρ,st,h⟩:=h
 refine tG.intro st h fun x v G1 H1 u1 st1 r1 h1=>?_
 refine tG.intro st1 h1 fun y w G2 H2 u2 st2 r2 h2=>?_
 exact h2 _ G2 H2 (.refl st2.sub) (.cons (r1.mono u2.gg) r2)
noncomputable def mkT (ds:List D):R D:=if ds.length<=sizeLine then .ok (.tup ds) else .no
theorem Ch (h:QFA X es gl):QF X (.Tuple es k pos) (fun ρ=>gl ρ>>=mkT):=by
 intro pins s σ H Q I hq
 refine Jm h pins s σ H Q I ?_
 obtain ⟨G,ρ,st,hq⟩:=hq
 refine tG.intro st hq fun ds vs G1 H1 u1 st1 r1 h1=>?_
 unfold mkT at h1
 split at h1
 ·rename_i hz
  exact ⟨by rw [r1.length];exact hz,fun p hp=>h1 _ _ _ (.new st1.sub hp) (.tup (.of bc) (r1.mono (.into (st1.sub.free hp))))⟩
 ·exact h1.elim
theorem DJ {c:Nat}:[c].length<=sizeLine:=by show 1<=sizeLine;decide
noncomputable def ixD:D->D->Option D
 | .lst _ xs,.int i=>atI xs i
 | .tup xs,.int i=>atI xs i
 | .str x,.int i=>(atI x i).map fun c=>.str [c]
 | _,_=>none
theorem Reps.atI {K:PySem.W.Frag} {G:Hp} {vs:List V} {ds:List D} {i:Int} {d:D} (r:Reps K G vs ds) (h:atI ds i=some d):∃ v,atI vs i=some v/\Rep K G v d:=by
 unfold L2.atI at h ⊢
 rw [r.length]
 cases e:ixN ds.length i with
 | none=>rw [e] at h;cases h
 | some j=>rw [e] at h;exact r.get h
theorem Kb (K:PySem.W.Frag):ROk K (rIx K) ixD:=by
 intro G H x y dx dy d Q s rx ry e q
 unfold ixD at e
 split at e
 ·obtain ⟨a,vs,rfl,h,r⟩:=rx.seq_inv
  obtain ⟨v,e1,r1⟩:=r.atI e
  exact .inl ⟨a,vs,_,v,rfl,ry.int_inv,h.mono s,e1,q v G H (.refl s) r1⟩
 ·obtain ⟨a,vs,rfl,h,r⟩:=rx.tup_inv
  obtain ⟨v,e1,r1⟩:=r.atI e
  exact .inr (.inl ⟨a,vs,_,v,rfl,ry.int_inv,h.mono s,e1,q v G H (.refl s) r1⟩)
 ·rename_i z i
  obtain ⟨y',rfl,ey,hy⟩:=rx.str_inv
  subst ey
  cases e1:L2.atI y'.cps.toList i with
  | none=>rw [e1] at e;cases e
  | some c=>
   rw [e1] at e
   cases e
   exact .inr (.inr ⟨y',i,c,rfl,ry.int_inv,hy,e1,q _ G H (.refl s) (.strL (by simp) DJ)⟩)
 ·cases e
end
noncomputable def jT {α:Type} (xs:List α) (lo hi:Option Int):List α:=(xs.drop (HT.sIx xs.length 0 lo)).take (HT.sIx xs.length xs.length hi - HT.sIx xs.length 0 lo)
theorem E3 {α:Type} (xs:List α) (lo hi:Option Int):(jT xs lo hi).length<=xs.length:=by
 unfold jT
 rw [List.length_take,List.length_drop]
 omega
theorem Reps.cut {K:PySem.W.Frag} (r:Reps K G vs ds) (lo hi:Option Int):Reps K G (D9 vs lo hi) (jT ds lo hi):=by
 unfold D9 jT
 rw [r.length]
 exact (r.drop _).take _
section
variable {X:Cx} {a b c e:Expr} {es cJ:List Expr} {lo hi:Option Expr} {ga gb gc:Ev->R D} {go gp:Ev->R (Option Int)} {gl:Ev->R (List D)} {pos p2:Pos}
noncomputable def GQ (K:PySem.W.Frag):V->Option Int->Option Int->Hp->VK->Prop:=fun x lo hi H Q=>∃ a xs,x=.ref a/\SqT K H a xs/\
 (HT.sIx xs.length 0 lo=0/\HT.sIx xs.length xs.length hi=xs.length)/\Q (.ref a) H
theorem sl_tup_whole:SlR X (GQ X.K):=by
 intro pins s σ H x v vl vu lo hi sl Q I rx hs pl pu h
 obtain ⟨a,xs,rfl,hx,⟨hw1,hw2⟩,q⟩:=h
 cases rx
 obtain ⟨its,r,ht,hz⟩:=I.tuple hx
 have hlen:its.toArray.size=xs.length:=by rw [List.size_toArray];exact r.length.symm
 refine ⟨"tuple",_,PyProof.Rows.slot_tuple_getitem.lookup,ht.typeIs,?_⟩
 obtain ⟨os,hos,hcs,hds⟩:=id hs
 have hTs:s.TypeIs (.ref sl) "slice":=⟨os,hos,hcs⟩
 unfold getItem
 try with_reducible refine wpAny_holding ?_
 first|refine wpAny_bind (wpAny_pure ?_)|skip
 refine wpAny_bind (wpAny_sequenceKey ht.typeIs (by decide) ?_)
 refine wpAny_bind (wpAny_callSpecial?_slot (name:=Str.ofString "__getitem__") ht.typeIs PyProof.Rows.slot_tuple_getitem
  (wpAny_call_entry PyProof.Rows.slot_tuple_getitem ht.typeIs entry_tuple_getitem ?_ (args_tuple_getitem _ _)))
 show wpAny _ _ (Builtin.Tuple.tupleItemsOf (.ref a)>>=_) _ _ s
 refine wpAny_bind (tupleItemsOf_ ht ?_)
 refine wpAny_bind (wpAny_typeOf hTs ?_)
 rw [if_pos (by decide)]
 refine wpAny_bind (HT.sliceApplied_gen hs pl pu ?_)
 rw [hlen,hw1,hw2]
 dsimp only
 rw [if_pos (by simp)]
 have fin:EP X pins σ Q (.ref a) s:=⟨.ref a,H,I,rfl,q⟩
 obtain ⟨o,ho,hc,n,hd⟩:=id ht
 unfold Builtin.Tuple.tupleIsExact
 refine wpAny_bind (wpAny_bind (wpAny_typeOf ht.typeIs (wpAny_pure ?_)))
 rw [if_pos (by decide)]
 exact wpAny_bind (wpAny_rule (wpAny_pure ⟨_,rfl,wpAny_pure fin⟩))
theorem Ja {α:Type} (xs:List α) (a:Nat):∀ k:Nat,((List.range k).map (a + ·)).filterMap (fun i:Nat=>xs[i]?)=(xs.drop a).take k
 | 0=>by simp
 | k+1=>by
  rw [List.range_succ,List.map_append,List.filterMap_append,Ja xs a k,List.take_add_one,List.getElem?_drop]
  congr 1
  try (simp only [List.map_cons,List.map_nil,List.filterMap_cons,List.filterMap_nil];cases xs[a+k]? <;> rfl)
theorem wc (n d:Nat) (v:Option Int):(match v with|none=>(d:Int)|some i=>max 0 (min (if i<0 then i+(n:Int) else i) (n:Int)))=((HT.sIx n d v:Nat):Int):=by
 cases v with
 | none=>rfl
 | some i=>
  show max 0 (min (if i<0 then i+(n:Int) else i) (n:Int))=(((if i<0 then (i+(n:Int)).toNat else min i.toNat n):Nat):Int)
  split <;> omega
theorem Fr (lo hi:Option Int) (n:Nat):Builtin.Str.strSliceIndices lo hi 1 n=(List.range (HT.sIx n n hi - HT.sIx n 0 lo)).map (HT.sIx n 0 lo + ·):=by
 have e:Builtin.Str.strSliceIndices lo hi 1 n=sliceRange ((HT.sIx n 0 lo:Nat):Int) ((HT.sIx n n hi:Nat):Int) 1:=by
  rw [<- wc n 0 lo,<- wc n n hi]
  rfl
 rw [e]
 generalize HT.sIx n 0 lo=a
 generalize HT.sIx n n hi=b
 unfold sliceRange
 have hc:(if (1:Int) > 0 then (if (a:Int)<(b:Int) then ((b:Int) - (a:Int)+1 - 1) / 1 else 0) else (if (a:Int) > (b:Int) then ((a:Int) - (b:Int) - 1 - 1) / (-1) else 0)).toNat=b - a:=by
  rw [if_pos (by decide)]
  split
  ·rw [Int.ediv_one];omega
  ·omega
 simp only [hc]
 apply List.map_congr_left
 intro k _
 omega
theorem Bg (x:Str) (lo hi:Option Int):(Txt.slice x lo hi).cps.toList=jT x.cps.toList lo hi:=by
 have hn:x.cps.toList.length=x.length:=Str.len_list x
 unfold Txt.slice jT
 rw [hn,Fr]
 have hb:HT.sIx x.length x.length hi<=x.length:=HT.sIx_le _ _ (Nat.le_refl _) hi
 by_cases hc:((1:Int)==1 && ((List.range (HT.sIx x.length x.length hi - HT.sIx x.length 0 lo)).map (HT.sIx x.length 0 lo + ·)).length==x.length)=true
 ·rw [if_pos hc]
  have h2:HT.sIx x.length x.length hi - HT.sIx x.length 0 lo=x.length:=by simpa using hc
  have h3:HT.sIx x.length 0 lo=0\/x.length=0:=by omega
  rw [h2]
  rcases h3 with h3|h3
  ·rw [h3,List.drop_zero,<- hn,List.take_length]
  ·have:x.cps.toList=[]:=List.eq_nil_of_length_eq_zero (by rw [hn];exact h3)
   rw [this];simp
 ·rw [if_neg hc]
  have e:(fun i:Nat=>x.cps[i]?)=(fun i:Nat=>x.cps.toList[i]?):=by funext i;simp
  show (List.filterMap (fun i:Nat=>x.cps[i]?) _).toArray.toList=_
  rw [List.toList_toArray,e,Ja]
noncomputable def Mn:V->Option Int->Option Int->Hp->VK->Prop:=fun x lo hi H Q=>∃ y:Str,x=.str y/\y.length<=sizeLine/\Q (.str (Txt.slice y lo hi)) H
theorem sl_str:SlR X Mn:=by
 intro pins s σ H x v vl vu lo hi sl Q I rx hs pl pu h
 obtain ⟨y,rfl,hz,q⟩:=h
 obtain ⟨t,rfl⟩:=rx
 refine ⟨"str",_,F.slot_str_getitem.lookup,typeIs_str _ _ _,?_⟩
 cases pl with
 | none=>
  cases pu with
  | none=>exact wpAny_getItem_str_slice (l:=none) (u:=none) (st:=none) hs rfl (post_val_or_str ⟨Nat.le_trans (Txt.slice_le y _ _) hz,fun t' k=>⟨.str _,H,I.tok k,⟨t',rfl⟩,q⟩⟩)
  | int j uj=>exact wpAny_getItem_str_slice (l:=none) (u:=some (j,uj)) (st:=none) hs rfl (post_val_or_str ⟨Nat.le_trans (Txt.slice_le y _ _) hz,fun t' k=>⟨.str _,H,I.tok k,⟨t',rfl⟩,q⟩⟩)
 | int i ui=>
  cases pu with
  | none=>exact wpAny_getItem_str_slice (l:=some (i,ui)) (u:=none) (st:=none) hs rfl (post_val_or_str ⟨Nat.le_trans (Txt.slice_le y _ _) hz,fun t' k=>⟨.str _,H,I.tok k,⟨t',rfl⟩,q⟩⟩)
  | int j uj=>exact wpAny_getItem_str_slice (l:=some (i,ui)) (u:=some (j,uj)) (st:=none) hs rfl (post_val_or_str ⟨Nat.le_trans (Txt.slice_le y _ _) hz,fun t' k=>⟨.str _,H,I.tok k,⟨t',rfl⟩,q⟩⟩)
noncomputable def D7 (lo hi:Option Int):D->Option D
 | .str x=>some (.str (jT x lo hi))
 | .tup xs=>some (.tup (jT xs lo hi))
 | .lst _ xs=>some (.lst false (jT xs lo hi))
 | _=>none
noncomputable def rSl (K:PySem.W.Frag):V->Option Int->Option Int->Hp->VK->Prop:=fun x lo hi H Q=>Mn x lo hi H Q\/GQ K x lo hi H Q\/L3 K x lo hi H Q\/LY K x lo hi H Q
theorem Iu:SlR X (rSl X.K):=sl_str.or (sl_tup_whole.or (sl_tup.or Gr))
noncomputable def QFO (X:Cx) (o:Option Expr) (g:Ev->R (Option Int)):Prop:=PO X o (tG X (fun _ b c=>b=c) g)
def asI:D->R Int
 | .int i=>.ok i
 | _=>.no
theorem yT (h:QF X e ga):QFO X (some e) (fun ρ=>ga ρ>>=fun x=>asI x>>=fun i=>.ok (some i)):=by
 intro pins s σ H Q I hq
 refine Fz h pins s σ H Q I ?_
 obtain ⟨G,ρ,st,hq⟩:=hq
 refine tG.intro st hq fun x v G1 H1 u1 st1 r1 h1=>?_
 cases r1 with
 | int i=>exact ⟨i,rfl,h1 (some i) G1 H1 (.refl st1.sub) rfl⟩
 | _=>exact h1.elim
noncomputable def gSl (ga:Ev->R D) (go gp:Ev->R (Option Int)):Ev->R D:=fun ρ=>ga ρ>>=fun x=>go ρ>>=fun l=>gp ρ>>=fun u=>ofO (D7 l u x)
noncomputable def JK (K:PySem.W.Frag) (r:List V->Hp->VK->Prop) (f:List D->Option D):Prop:=∀ (G H:Hp) (xs:List V) (ds:List D) (d:D) (Q:VK),Same G H->Reps K G xs ds->f ds=some d->Fin G H (Rep K) Q d->r xs H Q
theorem kz {id:String} {r:List V->Hp->VK->Prop} {f:List D->Option D} (hc:nJ X (.builtin id) r) (hf:JK X.K r f) (hg:Gl X x) (hm:X.mg x=none) (hv:bootBuiltins x=some (.builtin id)) (ha:QFA X (e::es) gl)
 (hn:x ≠ "__name__":=by decide) (hdb:(x==("__debug__":Str))=false:=by decide)
 (he:starEach (e::es) X.env=(false,eval e X.env)::starEach es X.env:=by rfl) (hpl:(backTo pos (starEach es X.env)).any (·.1)=false:=by rfl):QF X (.Call (.Name x p) (e::es) [] pos) (fun ρ=>gl ρ>>=fun ds=>ofO (f ds)):=by
 intro pins s σ H Q I h
 refine wB hc hg hm hv ha hn hdb he hpl pins s σ H Q I ?_
 obtain ⟨G,ρ,st,h⟩:=h
 refine tG.intro st h fun ds vs G1 H1 u1 st1 r1 h1=>?_
 obtain ⟨d,e,q⟩:=ofO.ok h1
 exact hf G1 H1 vs ds d Q st1.sub r1 e q
theorem Reps.one {K:PySem.W.Frag} (r:Reps K G vs [d]):∃ v,vs=[v]/\Rep K G v d:=by
 cases r with
 | cons r t=>cases t;exact ⟨_,rfl,r⟩
theorem Reps.two {K:PySem.W.Frag} {d':D} (r:Reps K G vs [d,d']):∃ v w,vs=[v,w]/\Rep K G v d/\Rep K G w d':=by
 cases r with
 | cons r t=>obtain ⟨w,rfl,r'⟩:=t.one;exact ⟨_,w,rfl,r,r'⟩
noncomputable def eS:List D->Option D
 | [.str x]=>some (.int x.length)
 | [.tup xs]=>some (.int xs.length)
 | [.lst _ xs]=>some (.int xs.length)
 | _=>none
theorem Db (hg:Gl X "len") (hm:X.mg "len"=none) (ha:QFA X [e] gl) (he:starEach [e] X.env=[(false,eval e X.env)]:=by rfl):QF X (.Call (.Name "len" p) [e] [] pos) (fun ρ=>gl ρ>>=fun ds=>ofO (eS ds)):=
 kz CU (by
  intro G H xs ds d Q s r e q
  unfold eS at e
  split at e
  ·cases e
   obtain ⟨v,rfl,r1⟩:=r.one
   obtain ⟨y,rfl,ey,hy⟩:=r1.str_inv
   subst ey
   exact ⟨_,y.length,rfl,⟨hy,rfl⟩,by rw [<- Str.len_list];exact q _ G H (.refl s) (.int _)⟩
  ·cases e
   obtain ⟨v,rfl,r1⟩:=r.one
   obtain ⟨a,vs,rfl,h,t⟩:=r1.tup_inv
   exact ⟨_,vs.length,rfl,.inr ⟨vs,h.mono s,rfl⟩,by rw [t.length];exact q _ G H (.refl s) (.int _)⟩
  ·cases e
   obtain ⟨v,rfl,r1⟩:=r.one
   obtain ⟨a,vs,rfl,h,t⟩:=r1.seq_inv
   exact ⟨_,vs.length,rfl,.inl ⟨vs,h.mono s,rfl⟩,by rw [t.length];exact q _ G H (.refl s) (.int _)⟩
  ·cases e) hg hm PySem.boot_len ha (he:=by rw [he];rfl)
noncomputable def nP:List D->Option D
 | [.lst _ xs]=>some (.tup xs)
 | [.tup xs]=>some (.tup xs)
 | _=>none
theorem Cu (K:PySem.W.Frag):JK K (fun xs H Q=>∃ p ys,xs=[.ref p]/\((SqL K H p ys/\∀ l,H l=none->Q (.ref l) (upd H l (.tup ys)))\/(SqT K H p ys/\Q (.ref p) H))) nP:=by
 intro G H xs ds d Q s r e q
 unfold nP at e
 split at e
 ·cases e
  obtain ⟨v,rfl,r1⟩:=r.one
  obtain ⟨a,vs,rfl,h,t⟩:=r1.seq_inv
  exact ⟨a,vs,rfl,.inl ⟨h.mono s,fun l hl=>q _ _ _ (.new s hl) (.tup (.of bc) (t.mono (.into (s.free hl))))⟩⟩
 ·cases e
  obtain ⟨v,rfl,r1⟩:=r.one
  obtain ⟨a,vs,rfl,h,t⟩:=r1.tup_inv
  exact ⟨a,vs,rfl,.inr ⟨h.mono s,q _ G H (.refl s) (.tup h t)⟩⟩
 ·cases e
end
noncomputable def ItOk (K:PySem.W.Frag) (G₁:Hp) (J:It) (items:List D):Prop:=∀ (i:Nat) (G H:Hp),Same G₁ G->Same G H->
 (∀ d,items[i]?=some d->J.go i H/\∀ x H',J.yld i H x H'->∃ G',Up G H G' H'/\Rep K G' x d)/\(items.length<=i->J.stop i H)
noncomputable def QIF (X:Cx) (tg iter:Expr) (g:Ev->R (List D)):Prop:=PI X tg iter (tG X (fun G J items=>ItOk X.K G J items) g)
noncomputable def Its (x:Str):It:=⟨fun i _=>i<x.cps.size,fun i H v H'=>H'=H/\∃ c,x.cps[i]?=some c/\v=.str ⟨#[c]⟩,fun i _=>x.cps.size<=i⟩
section
variable {X:Cx} {tg a e:Expr} {ga:Ev->R D} {gl:Ev->R (List D)} {pos:Pos}
theorem zF {l:Addr} {Rr:It->Hp->Prop} (I:Inv X pins σ H s) (h:SqL X.K H l xs) (q:Rr (Itl X.K l) H) :
  wpAny (model X.prog X.w) X.A (pyIter (.ref l)) (PIE X pins σ tg Rr) X.xe s:=by
 obtain ⟨its,rv,p,hz⟩:=I.list h
 refine wpAny_pyIter_list p.isList ?_
 refine ⟨s.heap.objs.size,[s.heap.objs.size],_,_,H,rfl,I.kept (t':=s.toks) fun b o e=>Heap.get?_push_of_some _ e,AD l _,⟨_,Heap.get?_push_size _ rfl,rfl,rfl⟩,fun b hb=>?_,q⟩
 have e:b=s.heap.objs.size:=by simpa using hb
 subst e
 exact I.fpOk (Nat.le_refl _) (I.hok.fresh (Nat.le_refl _))
theorem HW {l:Addr} {Rr:It->Hp->Prop} (I:Inv X pins σ H s) (h:SqT X.K H l xs) (q:Rr (Itt X.K l) H) :
  wpAny (model X.prog X.w) X.A (pyIter (.ref l)) (PIE X pins σ tg Rr) X.xe s:=by
 obtain ⟨its,rv,p,hz⟩:=I.tuple h
 refine wpAny_pyIter_tuple (show s.heap.IsTuple l its.toArray from p) ?_
 refine ⟨s.heap.objs.size,[s.heap.objs.size],_,_,H,rfl,I.kept (t':=s.toks) fun b o e=>Heap.get?_push_of_some _ e,yI l _,⟨_,Heap.get?_push_size _ rfl,rfl,rfl⟩,fun b hb=>?_,q⟩
 have e:b=s.heap.objs.size:=by simpa using hb
 subst e
 exact I.fpOk (Nat.le_refl _) (I.hok.fresh (Nat.le_refl _))
theorem xL {w:World} {K:PySem.W.Frag} (it:Addr) (x:Str) (t:Tok):Turn P w K tg (Its x) [it] it (fun i h=>h.IsStrIter it "str_ascii_iterator" x t i) where
 mem:=by simp
 obj:=fun i h st b hb=>by
  have e:b=it:=by simpa using hb
  subst e
  obtain ⟨o,e,c,d⟩:=st
  exact ⟨o,e,fun v z=>by rw [d] at z;cases z⟩
 keep:=fun i h h' st k=>let ⟨o,ho,r⟩:=st;⟨o,k it (by simp) o ho,r⟩
 item:=by
  intro X hP hw hK hc i pins s σ H E I hf st hg
  subst hP hw hK
  have hg':i<x.cps.size:=hg
  obtain ⟨f0,f1,f2,f3,f4,f5⟩:=hf it (by simp)
  refine wpAny_pyNext_ascii_item st (c:=x.cps[i]) (by simp [hg']) fun h' st' sb=>?_
  have I1:Inv X pins σ H { s with heap:=h',toks:=s.toks+1 }:=I.turned (t':=s.toks+1) (fun b o hb e=>(sb.2 b hb).trans e) f0 f1 f3 f4 f5
  obtain ⟨o,e,c,d⟩:=id st'
  exact ⟨_,rfl,Ap (s:={ s with heap:=h',toks:=s.toks+1 }) e c d (by decide) ⟨.str ⟨#[x.cps[i]]⟩,H,I1,⟨_,rfl⟩,⟨rfl,_,by simp [hg'],rfl⟩,st',fun b hb=>(hf b hb).1⟩⟩
 done:=by
  intro X hP hw hK hc i pins s σ H E I hf st hg
  subst hP hw hK
  obtain ⟨f0,f1,f2,f3,f4,f5⟩:=hf it (by simp)
  have hg':x.cps.size<=i:=hg
  exact wpAny_pyNext_ascii_end (I.ok.hd hc) st (by simp;omega) fun h' eb=>⟨rfl,I.turned (t':=s.toks) (fun b o hb e=>eb b o hb e) f0 f1 f3 f4 f5⟩
 self:=fun _ _ _ _ _ st h=>wpAny_pyIter_striter_ascii st h
theorem zK {w:World} {K:PySem.W.Frag} (it:Addr) (x:Str) (t:Tok):Turn P w K tg (Its x) [it] it (fun i h=>h.IsStrIter it "str_iterator" x t i) where
 mem:=by simp
 obj:=fun i h st b hb=>by
  have e:b=it:=by simpa using hb
  subst e
  obtain ⟨o,e,c,d⟩:=st
  exact ⟨o,e,fun v z=>by rw [d] at z;cases z⟩
 keep:=fun i h h' st k=>let ⟨o,ho,r⟩:=st;⟨o,k it (by simp) o ho,r⟩
 item:=by
  intro X hP hw hK hc i pins s σ H E I hf st hg
  subst hP hw hK
  have hg':i<x.cps.size:=hg
  obtain ⟨f0,f1,f2,f3,f4,f5⟩:=hf it (by simp)
  refine wpAny_pyNext_wide_item st (c:=x.cps[i]) (by simp [hg']) fun h' st' sb=>?_
  have I1:Inv X pins σ H { s with heap:=h',toks:=s.toks+1 }:=I.turned (t':=s.toks+1) (fun b o hb e=>(sb.2 b hb).trans e) f0 f1 f3 f4 f5
  obtain ⟨o,e,c,d⟩:=id st'
  exact ⟨_,rfl,Ap (s:={ s with heap:=h',toks:=s.toks+1 }) e c d (by decide) ⟨.str ⟨#[x.cps[i]]⟩,H,I1,⟨_,rfl⟩,⟨rfl,_,by simp [hg'],rfl⟩,st',fun b hb=>(hf b hb).1⟩⟩
 done:=by
  intro X hP hw hK hc i pins s σ H E I hf st hg
  subst hP hw hK
  obtain ⟨f0,f1,f2,f3,f4,f5⟩:=hf it (by simp)
  have hg':x.cps.size<=i:=hg
  exact wpAny_pyNext_wide_end (I.ok.hd hc) st (by simp;omega) fun h' eb=>⟨rfl,I.turned (t':=s.toks) (fun b o hb e=>eb b o hb e) f0 f1 f3 f4 f5⟩
 self:=fun _ _ _ _ _ st h=>wpAny_pyIter_striter_wide st h
theorem Iv {t:Tok} {Rr:It->Hp->Prop} (I:Inv X pins σ H s) (q:Rr (Its x) H) :
  wpAny (model X.prog X.w) X.A (pyIter (.str x t)) (PIE X pins σ tg Rr) X.xe s:=by
 have fp:∀ (o:Obj),∀ b∈[s.heap.objs.size],pe X pins H b:=fun o b hb=>by
  have e:b=s.heap.objs.size:=by simpa using hb
  subst e
  exact I.fpOk (Nat.le_refl _) (I.hok.fresh (Nat.le_refl _))
 cases ha:x.cps.all (· < 128)
 ·refine wpAny_pyIter_wide ha ⟨s.heap.objs.size,[s.heap.objs.size],_,_,H,rfl,I.kept (t':=s.toks) fun b o e=>Heap.get?_push_of_some _ e,zK _ x t,⟨_,Heap.get?_push_size _ rfl,rfl,rfl⟩,fp default,q⟩
 ·refine wpAny_pyIter_ascii ha ⟨s.heap.objs.size,[s.heap.objs.size],_,_,H,rfl,I.kept (t':=s.toks) fun b o e=>Heap.get?_push_of_some _ e,xL _ x t,⟨_,Heap.get?_push_size _ rfl,rfl,rfl⟩,fp default,q⟩
noncomputable def ce:D->R (List D)
 | .lst _ xs=>.ok xs
 | .tup xs=>.ok xs
 | .str x=>.ok (x.map fun c=>.str [c])
 | _=>.no
theorem ItOk.list {K:PySem.W.Frag} {l:Addr} (h:SqL K G l vs) (r:Reps K G vs ds):ItOk K G (Itl K l) ds:=by
 intro i G1 H1 s1 s2
 refine ⟨fun d e=>?_,fun hl=>⟨vs,(h.mono s1).mono s2,by rw [r.length];exact hl⟩⟩
 obtain ⟨v,ev,rv⟩:=r.get e
 refine ⟨⟨vs,v,(h.mono s1).mono s2,ev⟩,fun x H' y=>?_⟩
 obtain ⟨rfl,y⟩:=y
 have:=y vs ((h.mono s1).mono s2)
 rw [ev] at this
 cases this
 exact ⟨G1,.refl s2,rv.mono s1⟩
theorem ItOk.tup {K:PySem.W.Frag} {l:Addr} (h:SqT K G l vs) (r:Reps K G vs ds):ItOk K G (Itt K l) ds:=by
 intro i G1 H1 s1 s2
 refine ⟨fun d e=>?_,fun hl=>⟨vs,(h.mono s1).mono s2,by rw [r.length];exact hl⟩⟩
 obtain ⟨v,ev,rv⟩:=r.get e
 refine ⟨⟨vs,v,(h.mono s1).mono s2,ev⟩,fun x H' y=>?_⟩
 obtain ⟨rfl,y⟩:=y
 have:=y vs ((h.mono s1).mono s2)
 rw [ev] at this
 cases this
 exact ⟨G1,.refl s2,rv.mono s1⟩
theorem ItOk.str {K:PySem.W.Frag} (x:Str):ItOk K G (Its x) (x.cps.toList.map fun c=>.str [c]):=by
 intro i G1 H1 s1 s2
 refine ⟨fun d e=>?_,fun hl=>show x.cps.size<=i by simpa using hl⟩
 rw [List.getElem?_map] at e
 cases ec:x.cps.toList[i]? with
 | none=>rw [ec] at e;cases e
 | some c=>
  rw [ec] at e
  cases e
  have hi:i<x.cps.size:=by
   have:=(List.getElem?_eq_some_iff.mp ec).1
   simpa using this
  refine ⟨hi,fun v H' y=>?_⟩
  obtain ⟨rfl,c',e',rfl⟩:=y
  have:c'=c:=by
   have h2:x.cps.toList[i]?=x.cps[i]?:=by simp
   rw [h2,e'] at ec
   exact Option.some.inj ec
  subst this
  exact ⟨G1,.refl s2,.strL rfl DJ⟩
theorem ItOk.range {K:PySem.W.Frag} (lo:Int) (n:Nat):ItOk K G (Itr lo n) ((List.range n).map fun i=>.int (lo+(i:Nat))):=by
 intro i G1 H1 s1 s2
 refine ⟨fun d e=>?_,fun hl=>show n<=i by simpa using hl⟩
 rw [List.getElem?_map] at e
 by_cases hi:i<n
 ·rw [List.getElem?_range hi] at e
  cases e
  refine ⟨hi,fun v H' y=>?_⟩
  obtain ⟨rfl,rfl⟩:=y
  exact ⟨G1,.refl s2,.int _⟩
 ·rw [List.getElem?_eq_none (by simpa using hi)] at e
  cases e
theorem AW (ha:QF X a ga):QIF X tg a (fun ρ=>ga ρ>>=ce):=by
 intro pins s σ H Rr I h
 obtain ⟨G,ρ,st,h⟩:=h
 have t:tF X ga σ H (fun x H1=>∃ G1 d,Same G1 H1/\Rep X.K G1 x d/\(ce d).post (Fin G1 H1 (fun G J items=>ItOk X.K G J items) Rr) (Exx X σ G1 H1)):=
  tG.intro st h fun x v G1 H1 u1 st1 r1 h1=>⟨G1,x,st1.sub,r1,h1⟩
 refine thn (ha pins s σ H _ I t) fun v s1 ⟨x,H1,I1,r1,G1,d,sub,rd,h1⟩=>?_
 cases rd with
 | lst hh r=>cases r1;exact zF I1 (.of (sub _ _ hh)) (h1 _ G1 H1 (.refl sub) (.list (.of hh) r))
 | fls hh r=>cases r1;exact zF I1 (hh.mono sub) (h1 _ G1 H1 (.refl sub) (.list hh r))
 | tup hh r=>cases r1;exact HW I1 (hh.mono sub) (h1 _ G1 H1 (.refl sub) (.tup hh r))
 | str y hy=>obtain ⟨t,rfl⟩:=r1;exact Iv I1 (h1 _ G1 H1 (.refl sub) (.str y))
 | _=>exact h1.elim
noncomputable def cr:List D->R (List D)
 | [.int j]=>if -(2 ^ 62)<=j/\j<2 ^ 62 then .ok ((List.range j.toNat).map fun i=>.int (0+(i:Nat))) else .no
 | _=>.no
noncomputable def jp:List D->R (List D)
 | [.int i,.int j]=>if -(2 ^ 62)<=i/\i<2 ^ 62/\-(2 ^ 62)<=j/\j<2 ^ 62 then .ok ((List.range (j - i).toNat).map fun k=>.int (i+(k:Nat))) else .no
 | _=>.no
theorem rO (hg:Gl X "range") (hm:X.mg "range"=none) (ha:QFA X [a] gl) (hs:starEach [a] X.env=[(false,eval a X.env)]:=by rfl):QIF X tg (.Call (.Name "range" p) [a] [] pos) (fun ρ=>gl ρ>>=cr):=by
 intro pins s σ H Rr I h
 refine AR hg hm ha hs pins s σ H Rr I ?_
 obtain ⟨G,ρ,st,h⟩:=h
 refine tG.intro st h fun ds vs G1 H1 u1 st1 r1 h1=>?_
 unfold cr at h1
 split at h1
 ·split at h1
  ·rename_i hj
   obtain ⟨v,rfl,r⟩:=r1.one
   obtain rfl:=r.int_inv
   exact ⟨_,rfl,hj.1,hj.2,h1 _ G1 H1 (.refl st1.sub) (.range 0 _)⟩
  ·exact h1.elim
 ·exact h1.elim
theorem sO {b:Expr} (hg:Gl X "range") (hm:X.mg "range"=none) (ha:QFA X [a,b] gl) (hs:starEach [a,b] X.env=[(false,eval a X.env),(false,eval b X.env)]:=by rfl) (hs2:starEach [b] X.env=[(false,eval b X.env)]:=by rfl) :
  QIF X tg (.Call (.Name "range" p) [a,b] [] pos) (fun ρ=>gl ρ>>=jp):=by
 intro pins s σ H Rr I h
 refine Bh hg hm ha hs hs2 pins s σ H Rr I ?_
 obtain ⟨G,ρ,st,h⟩:=h
 refine tG.intro st h fun ds vs G1 H1 u1 st1 r1 h1=>?_
 unfold jp at h1
 split at h1
 ·split at h1
  ·rename_i hj
   obtain ⟨v,w,rfl,r,r'⟩:=r1.two
   obtain rfl:=r.int_inv
   obtain rfl:=r'.int_inv
   exact ⟨_,_,rfl,hj,h1 _ G1 H1 (.refl st1.sub) (.range _ _)⟩
  ·exact h1.elim
 ·exact h1.elim
end
noncomputable def ObSt (K:PySem.W.Frag) (H₀ G H:Hp) (σ:St) (ρ:Ev):Prop:=
 ∃ ow:li,(∀ (i:Nat) ds l,ρ[i]?=some (some (.own ds))->σ[i]?=some (some (.ref l))->ow l=some (i,0))/\
  ∀ (i:Nat) m C p fs,ρ[i]?=some (some (.obj m C p fs))->σ[i]?=some (some (.ref p))/\ObjAt K H₀ G H ow i m C p fs
theorem ObSt.rd {K:PySem.W.Frag} {H₀:Hp} (h:ObSt K H₀ G H σ ρ):∀ (i:Nat) m C p fs,ρ[i]?=some (some (.obj m C p fs))->σ[i]?=some (some (.ref p))/\∃ ow,ObjAt K (fun _=>none) G H ow i m C p fs:=fun i m C p fs e=>by
 obtain ⟨ow,_,o2⟩:=h
 exact ⟨(o2 i m C p fs e).1,ow,(o2 i m C p fs e).2.rd⟩
noncomputable def NoOwn (ρ:Ev):Prop:=∀ (j:Nat) (x:Sl),ρ[j]?=some (some x)->∃ d,x=.val d
theorem NoOwn.own (h:NoOwn ρ) (j:Nat) (ds:List D):ρ[j]? ≠ some (some (.own ds)):=fun e=>by obtain ⟨d,z⟩:=h j _ e;cases z
theorem NoOwn.obj (h:NoOwn ρ) (j:Nat) (m:Bool) (C p:Addr) (fs:List (Nat×Fd)):ρ[j]? ≠ some (some (.obj m C p fs)):=fun e=>by obtain ⟨d,z⟩:=h j _ e;cases z
theorem NoOwn.ob {K:PySem.W.Frag} {H₀:Hp} (h:NoOwn ρ):ObSt K H₀ G H σ ρ:=
 ⟨fun _=>none,fun i ds l e=>absurd e (h.own i ds),fun i m C p fs e=>absurd e (h.obj i m C p fs)⟩
structure StR (K:PySem.W.Frag) (G₀ H₀ G H:Hp) (σ:St) (ρ:Ev):Prop where
 e:StE K G H σ ρ
 sub0:Same G₀ H₀
 up:Up G₀ H₀ G H
 own:∀ (i:Nat) ds,ρ[i]?=some (some (.own ds))->∃ l vs,σ[i]?=some (some (.ref l))/\H l=some (.lst vs)/\G l=none/\H₀ l=none/\Reps K G vs ds
 inj:∀ (i j:Nat) ds es l,ρ[i]?=some (some (.own ds))->ρ[j]?=some (some (.own es))->σ[i]?=some (some (.ref l))->σ[j]?=some (some (.ref l))->i=j
 ob:ObSt K H₀ G H σ ρ
section
variable {K:PySem.W.Frag} {G₀ H₀ G H G' H':Hp} {σ:St} {ρ:Ev}
theorem StR.ups (s:StR K G₀ H₀ G H σ ρ) (u:Up G H G' H'):StR K G₀ H₀ G' H' σ ρ:=⟨s.e.up u,s.sub0,s.up.trans u,(fun i ds e=>by
 obtain ⟨l,vs,h1,h2,h3,h4,h5⟩:=s.own i ds e
 refine ⟨l,vs,h1,u.hh _ _ h2,?_,h4,h5.mono u.gg⟩
 cases q:G' l with
 | none=>rfl
 | some o=>
  rcases u.fr l o q with z|z
  ·rw [h3] at z;cases z
  ·rw [h2] at z;cases z),s.inj,by
 obtain ⟨ow,o1,o2⟩:=s.ob
 exact ⟨ow,o1,fun i m C p fs e=>⟨(o2 i m C p fs e).1,(o2 i m C p fs e).2.keep (.up u)⟩⟩⟩
theorem StR.set (s:StR K G₀ H₀ G H σ ρ) (r:Rep K G v d) (i:Nat):StR K G₀ H₀ G H (σ.set i (some v)) (ρ.set i (some (.val d))):=by
 have get:∀ (j:Nat) x,(ρ.set i (some (.val d)))[j]?=some (some x)->(j=i/\x=.val d/\i<σ.length)\/(j≠i/\ρ[j]?=some (some x)/\(σ.set i (some v))[j]?=σ[j]?):=fun j x h=>by
  by_cases e:i=j
  ·subst e
   have hl:i<ρ.length:=by
    have:=(List.getElem?_eq_some_iff.mp h).1
    simpa using this
   rw [List.getElem?_set_self hl] at h
   exact .inl ⟨rfl,by injection (Option.some.inj h) with q;exact q.symm,by rw [s.e.len];exact hl⟩
  ·rw [List.getElem?_set_ne e] at h
   exact .inr ⟨fun z=>e z.symm,h,List.getElem?_set_ne e⟩
 have ob:ObSt K H₀ G H (σ.set i (some v)) (ρ.set i (some (.val d))):=by
  obtain ⟨ow,o1,o2⟩:=s.ob
  refine ⟨ow,fun j ds l h1 h2=>?_,fun j m C p fs h1=>?_⟩
  ·rcases get j _ h1 with ⟨_,e,_⟩|⟨_,e,e'⟩
   ·cases e
   ·exact o1 j ds l e (e' ▸ h2)
  ·rcases get j _ h1 with ⟨_,e,_⟩|⟨_,e,e'⟩
   ·cases e
   ·rw [e'];exact o2 j m C p fs e
 refine ⟨⟨s.e.sub,by simp [s.e.len],fun j d' h=>?_,ob.rd⟩,s.sub0,s.up,fun j ds h=>?_,fun j k ds es l h1 h2 h3 h4=>?_,ob⟩
 ·rcases get j _ h with ⟨rfl,e,hl⟩|⟨_,e,e'⟩
  ·cases e
   exact ⟨v,List.getElem?_set_self hl,r⟩
  ·rw [e'];exact s.e.val j d' e
 ·rcases get j _ h with ⟨_,e,_⟩|⟨_,e,e'⟩
  ·cases e
  ·rw [e'];exact s.own j ds e
 ·rcases get j _ h1 with ⟨_,e,_⟩|⟨_,e,e'⟩
  ·cases e
  ·rcases get k _ h2 with ⟨_,f,_⟩|⟨_,f,f'⟩
   ·cases f
   ·exact s.inj j k ds es l e f (e' ▸ h3) (f' ▸ h4)
end
noncomputable def PGF (X:Cx) (tg:Expr) (asg:D->Ev->R Ev):Prop:=PG X tg (fun v σ H Q=>∃ G₀ H₀ G ρ d ρ',StR X.K G₀ H₀ G H σ ρ/\Rep X.K G v d/\asg d ρ=.ok ρ'/\∀ σ',StR X.K G₀ H₀ G H σ' ρ'->Q σ' H)
section
variable {X:Cx} {pos:Pos}
noncomputable def kU (i:Nat):D->Ev->R Ev:=fun d ρ=>.ok (ρ.set i (some (.val d)))
theorem dU (i:Nat) (hN:X.N.Nodup) (hi:X.N[i]?=some x:=by rfl) (hx:Loc X.env.scope x:=by first|exact Or.inl rfl|exact Or.inr rfl)
 (hf:X.fn x=true\/X.env.scope.names.lookup x=some .local:=by first|exact .inl rfl|exact .inr rfl):PGF X (.Name x pos) (kU i):=by
 intro pins s σ H v u Q I r h
 obtain ⟨G₀,H₀,G,ρ,d,ρ',st,rd,e,q⟩:=h
 cases e
 exact kE hN hi hx hf pins s σ H v u Q I r (q _ (st.set rd i))
end
noncomputable def yw (K:PySem.W.Frag) (G H:Hp) (Q:VK):List D->Prop:=fun ds=>∀ l vs G' H',Up G H G' H'->H' l=none->Reps K G' vs ds->Q (.ref l) (upd H' l (.lst vs))
noncomputable def tL (X:Cx) (g:Ev->R (List D)):TE:=fun σ H Q=>∃ G ρ,StE X.K G H σ ρ/\(g ρ).post (yw X.K G H Q) (Exx X σ G H)
noncomputable def QFL (X:Cx) (e:Expr) (g:Ev->R (List D)):Prop:=PE X e (tL X g)
theorem pF {e:Expr} {g:Ev->R (List D)} (h:QFL X e g):QF X e (fun ρ=>g ρ>>=fun ds=>.ok (.lst false ds)):=by
 intro pins s σ H Q I hq
 refine h pins s σ H Q I ?_
 obtain ⟨G,ρ,st,hq⟩:=hq
 try dsimp only at hq
 refine ⟨G,ρ,st,?_⟩
 cases e:g ρ with
 | ok ds=>
  rw [e] at hq
  intro l vs G' H' u hl r
  exact hq _ _ _ (u.trans (.new u.sub hl)) (.lst bc (r.mono (.into (u.sub.free hl))))
 | ex C=>rw [e] at hq;exact hq
 | no=>rw [e] at hq;exact hq
theorem zV (h:QFA X es gl):QFL X (.List es pos) (fun ρ=>gl ρ>>=fun ds=>if ds.length<=sizeLine then .ok ds else .no):=by
 intro pins s σ H Q I hq
 refine HB h pins s σ H Q I ?_
 obtain ⟨G,ρ,st,hq⟩:=hq
 try dsimp only at hq
 refine ⟨G,ρ,st,?_⟩
 cases e:gl ρ with
 | ok ds=>
  rw [e] at hq
  intro vs G' H' u r
  simp only [R.ok_bind] at hq
  split at hq
  ·rename_i hz
   exact ⟨by rw [r.length];exact hz,fun p hp=>hq p vs G' H' u hp r⟩
  ·exact hq.elim
 | ex C=>rw [e] at hq;exact hq
 | no=>rw [e] at hq;exact hq
noncomputable def yQ (env:Env):List (Str×NameKind)->List (Str×Addr)->List (Str×Addr)
 | [],cs=>cs
 | (n,k)::r,cs=>yQ env r (if (k==.free)=true then (match env.cells.lookup n with|some c=>(n,c)::cs|none=>cs) else cs)
theorem wW {env:Env} {F:Str×NameKind->List (Str×Addr)->Sem (ForInStep (List (Str×Addr)))}
  (hF:∀ n k r,(k=NameKind.free->∃ c,env.cells.lookup n=some c)->F (n,k) r=pure (ForInStep.yield (if (k==.free)=true then (match env.cells.lookup n with|some c=>(n,c)::r|none=>r) else r))) :
  ∀ (l:List (Str×NameKind)) (cs:List (Str×Addr)),(∀ x∈l,x.2=.free->∃ c,env.cells.lookup x.1=some c)->forIn l cs F=pure (yQ env l cs)
 | [],cs,_=>rfl
 | (n,k)::l,cs,h=>by
  rw [List.forIn_cons,hF n k cs (h (n,k) List.mem_cons_self),pure_bind]
  exact wW hF l _ fun y hy=>h y (List.mem_cons_of_mem _ hy)
theorem jv {env:Env} (h:∀ x∈scope.names,x.2=.free->∃ c,env.cells.lookup x.1=some c):closureFor scope env=pure (yQ env scope.names []):=by
 simp only [closureFor]
 rw [wW (env:=env) (fun n k r hk=>?_) scope.names [] h]
 ·rfl
 ·by_cases hf:(k==NameKind.free)=true
  ·obtain ⟨c,hc⟩:=hk (by simpa using hf)
   simp only [hf,if_true,cellOf,hc,pure_bind]
  ·simp only [hf,if_false]
   rfl
theorem wY {env:Env}:∀ (l:List (Str×NameKind)) (cs:List (Str×Addr)),(∀ x c,cs.lookup x=some c->env.cells.lookup x=some c)->∀ x c,(yQ env l cs).lookup x=some c->env.cells.lookup x=some c
 | [],cs,h,x,c,e=>h x c e
 | (n,k)::l,cs,h,x,c,e=>by
  unfold yQ at e
  refine wY l _ (fun y d ed=>?_) x c e
  split at ed
  ·split at ed
   ·rename_i c' hc'
    rw [List.lookup_cons] at ed
    split at ed
    ·rename_i q;rw [eq_of_beq q];rw [<- Option.some.inj ed];exact hc'
    ·exact h y d ed
   ·exact h y d ed
  ·exact h y d ed
theorem pV {env:Env}:∀ (l:List (Str×NameKind)) (cs:List (Str×Addr)) (x:Str),((∃ c,cs.lookup x=some c)\/((x,NameKind.free)∈l/\∃ c,env.cells.lookup x=some c))->∃ c,(yQ env l cs).lookup x=some c
 | [],cs,x,h=>by
  rcases h with h|⟨h,_⟩
  ·exact h
  ·cases h
 | (n,k)::l,cs,x,h=>by
  unfold yQ
  refine pV l _ x ?_
  rcases h with ⟨c,h⟩|⟨h,c,hc⟩
  ·left
   split
   ·split
    ·rename_i c' _
     rw [List.lookup_cons]
     split
     ·exact ⟨_,rfl⟩
     ·exact ⟨c,h⟩
    ·exact ⟨c,h⟩
   ·exact ⟨c,h⟩
  ·rcases List.mem_cons.mp h with e|h
   ·cases e
    left
    rw [if_pos (by rfl),hc]
    exact ⟨c,by simp [List.lookup_cons]⟩
   ·exact .inr ⟨h,c,hc⟩
noncomputable def bT (X:Cx) (N':List Str) (scope:Scope) (C:Addr) (s₂:Shared) (H₂:Hp) (fp:List Addr):Cx:=
 { X with N:=N',s₀:=s₂,H₀:=H₂,env:=compEnvC scope (yQ X.env scope.names []) C X.env,outer:=X.stack,stack:=X.stack,ex:=fp,fn:=fun _=>false,pn:=[],xe:=fun _ _=>False }
def dH {α:Type}:R α->R α
 | .ok a=>.ok a
 | _=>.no
noncomputable def gW (ix:List Nat) (ρ:Ev):Ev:=none::ix.map fun (i:Nat)=>match ρ[i]? with
 | some (some (.val d))=>some (.val d)
 | _=>none
noncomputable def gG (n:Nat) (ix:List Nat) (ρ:Ev):Ev:=List.replicate n none++ix.map fun (i:Nat)=>match ρ[i]? with
 | some (some (.val d))=>some (.val d)
 | _=>none
noncomputable def gC (asg:D->Ev->R Ev) (gt:Ev->R Bool) (ge:Ev->R D):List D->Ev->R (List D)
 | [],_=>.ok []
 | d::ds,ρ=>dH (asg d ρ)>>=fun ρ1=>dH (gt ρ1)>>=fun k=>if k=true then dH (ge ρ1)>>=fun x=>gC asg gt ge ds ρ1>>=fun xs=>.ok (x::xs) else gC asg gt ge ds ρ1
noncomputable def eO (gt:Ev->R Bool) (ge:Ev->R D):List D->Ev->R (List D):=gC (kU 0) gt ge
theorem kr {asg:D->Ev->R Ev} {gt:Ev->R Bool} {ge:Ev->R D}:∀ (ds:List D) (ρ:Ev),(∃ xs,gC asg gt ge ds ρ=.ok xs)\/gC asg gt ge ds ρ=.no
 | [],ρ=>.inl ⟨[],rfl⟩
 | d::ds,ρ=>by
  unfold gC
  cases asg d ρ with
  | ok ρ1=>
   simp only [dH,R.ok_bind]
   cases gt ρ1 with
   | ok k=>
    simp only [dH,R.ok_bind]
    cases k with
    | true=>
     simp only [if_true]
     cases ge ρ1 with
     | ok x=>
      simp only [dH,R.ok_bind]
      rcases kr (asg:=asg) ds ρ1 with ⟨xs,e⟩|e
      ·rw [e];exact .inl ⟨_,rfl⟩
      ·rw [e];exact .inr rfl
     | ex C=>exact .inr rfl
     | no=>exact .inr rfl
    | false=>simp only [Bool.false_eq_true,if_false];exact kr ds _
   | ex C=>exact .inr rfl
   | no=>exact .inr rfl
  | ex C=>exact .inr rfl
  | no=>exact .inr rfl
noncomputable def gm (gi:Ev->R (List D)) (ix:List Nat) (gt:Ev->R Bool) (ge:Ev->R D):Ev->R (List D):=fun ρ=>gi ρ>>=fun items=>eO gt ge items (gW ix ρ)>>=fun ds=>if ds.length<=sizeLine then .ok ds else .no
noncomputable def pi (n:Nat) (asg:D->Ev->R Ev) (gi:Ev->R (List D)) (ix:List Nat) (gt:Ev->R Bool) (ge:Ev->R D):Ev->R (List D):=fun ρ=>gi ρ>>=fun items=>gC asg gt ge items (gG n ix ρ)>>=fun ds=>if ds.length<=sizeLine then .ok ds else .no
noncomputable def PTs (X:Cx) (ifs:List Expr) (gt:Ev->R Bool):Prop:=∀ (pins:List (Addr×Obj)) (s:Shared) (σ:St) (H:Hp) (Q:Bool->Hp->Prop),Inv X pins σ H s->tTF X gt σ H Q->
 wpAny (model X.prog X.w) X.A (forIn ifs true fun c r=>if r=true then do let ok <- isTrue c X.env (eval c X.env);pure (ForInStep.yield ok) else pure (ForInStep.yield r)) (TP X pins σ Q) X.xe s
theorem gR:PTs X [] (fun _=>.ok true):=by
 intro pins s σ H Q I h
 obtain ⟨G,ρ,st,h⟩:=h
 exact wpAny_pure ⟨H,I,h true G H (.refl st.sub) rfl⟩
theorem Un.sameBut {fs ex:List Addr} {h1 h2:Heap} (u:Un fs ex H H' h h1) (k:∀ b o,b≠C->h1.get? b=some o->h2.get? b=some o) (hC:h.objs.size<=C):Un fs ex H H' h h2:=by
 have ne:∀ b o,h.get? b=some o->b≠C:=fun b o e=>Nat.ne_of_lt (Nat.lt_of_lt_of_le (Heap.lt_size e) hC)
 exact ⟨fun b o e n hb hx=>k b o (ne b o e) (u.keep b o e n hb hx),fun b o e n hb hx=>let ⟨sl,q⟩:=u.slot b o e n hb hx;⟨sl,k b _ (ne b o e) q⟩,u.free,fun b o e hx=>let ⟨o',q⟩:=u.there b o e hx;⟨o',k b o' (ne b o e) q⟩,u.tups,u.frzs,u.tbls⟩
theorem HOk.sameBut {w:World} (x:HOk P w H h) (k:∀ b o,b≠C->h.get? b=some o->h'.get? b=some o) (hC:H C=none):HOk P w H h':=fun a o e=>by
 refine (x a o e).stay (fun b u hb q=>k b u ?_ q) (fun _ z=>z) (fun _ _ z=>z)
 rcases hb with rfl|hb
 ·exact aN e hC
 ·exact aN hb hC
section
variable {X:Cx} {elt iter:Expr} {ifs:List Expr} {x:Str} {px pos:Pos} {scope:Scope} {N':List Str} {ix:List Nat} {gi:Ev->R (List D)} {gt:Ev->R Bool} {ge:Ev->R D}
structure CompOk (X:Cx) (scope:Scope) (x:Str) (N':List Str) (ix:List Nat):Prop where
 kind:scope.kind=.function
 cell:∀ y∈scope.names,y.2 ≠ .cell
 names:∀ y∈scope.names,y.2=.local->scope.names.lookup y.1=some .local
 loc:scope.names.lookup x=some .local
 fr:∀ y∈scope.names,y.2=.free->X.env.kindOf y.1=some .cell
 nd:N'.Nodup
 hd:N'[0]?=some x
 tl:N'.tail=ix.map fun (i:Nat)=>X.N.getD i Str.empty
 lt:∀ i∈ix,i<X.N.length
 fre:∀ y∈N'.tail,scope.names.lookup y=some .free/\(y,NameKind.free)∈scope.names
structure CompOkT (X:Cx) (scope:Scope) (n:Nat) (N':List Str) (ix:List Nat):Prop where
 kind:scope.kind=.function
 cell:∀ y∈scope.names,y.2 ≠ .cell
 names:∀ y∈scope.names,y.2=.local->scope.names.lookup y.1=some .local
 fr:∀ y∈scope.names,y.2=.free->X.env.kindOf y.1=some .cell
 le:n<=N'.length
 tl:N'.drop n=ix.map fun (i:Nat)=>X.N.getD i Str.empty
 lt:∀ i∈ix,i<X.N.length
 fre:∀ y∈N'.drop n,scope.names.lookup y=some .free/\(y,NameKind.free)∈scope.names
theorem CompOk.t (ok:CompOk X scope x N' ix):CompOkT X scope 1 N' ix:=
 ⟨ok.kind,ok.cell,ok.names,ok.fr,(List.getElem?_eq_some_iff.mp ok.hd).1,List.drop_one ▸ ok.tl,ok.lt,List.drop_one ▸ ok.fre⟩
theorem kW {env:Env} (hk:env.scope.kind=.function):∀ {names:List (Str×NameKind)} {x:Str},names.lookup x=some .free->env.kindOf x=some .cell->
  (names.map fun (n,k)=>if (k==NameKind.free && env.scope.kind==.function && env.kindOf n==some .cell) then (n,NameKind.cell) else (n,k)).lookup x=some .cell
 | [],_,h,_=>by simp at h
 | (n,k)::r,x,h,hc=>by
  have ih:=@kW env hk r x
  show List.lookup x ((if (k==NameKind.free && env.scope.kind==.function && env.kindOf n==some .cell)=true then (n,NameKind.cell) else (n,k))::_)=_
  cases hx:x==n with
  | true=>
   simp only [List.lookup_cons,hx] at h
   cases h
   have e:=eq_of_beq hx
   subst e
   rw [if_pos (by rw [hk,hc];rfl)]
   simp [List.lookup_cons]
  | false=>
   simp only [List.lookup_cons,hx] at h
   by_cases hc':(k==NameKind.free && env.scope.kind==.function && env.kindOf n==some .cell)=true
   ·rw [if_pos hc'];simp only [List.lookup_cons,hx];exact ih h hc
   ·rw [if_neg hc'];simp only [List.lookup_cons,hx];exact ih h hc
theorem AC {n:Nat} (h:(gG n ix ρ)[j]?=some (some (.val d))):∃ k i,j=k+n/\ix[k]?=some i/\ρ[i]?=some (some (.val d)):=by
 unfold gG at h
 by_cases hj:j<n
 ·rw [List.getElem?_append_left (by simpa using hj),List.getElem?_replicate,if_pos hj] at h;cases h
 ·rw [List.getElem?_append_right (by simpa using Nat.not_lt.1 hj),List.length_replicate,List.getElem?_map] at h
  cases e:ix[j - n]? with
  | none=>rw [e] at h;cases h
  | some i=>
   rw [e] at h
   refine ⟨j - n,i,by omega,e,?_⟩
   simp only [Option.map_some,Option.some.injEq] at h
   split at h
   ·rename_i d' e';cases h;exact e'
   ·cases h
noncomputable def iB (n:Nat) (ix:List Nat) (σ:St):St:=List.replicate n none++ix.map fun (i:Nat)=>(σ[i]?).join
theorem oM {n:Nat}:NoOwn (gG n ix ρ):=fun j x h=>by
 unfold gG at h
 by_cases hj:j<n
 ·rw [List.getElem?_append_left (by simpa using hj),List.getElem?_replicate,if_pos hj] at h;cases h
 ·rw [List.getElem?_append_right (by simpa using Nat.not_lt.1 hj),List.length_replicate,List.getElem?_map] at h
  cases e:ix[j - n]? with
  | none=>rw [e] at h;cases h
  | some i=>
   rw [e] at h
   simp only [Option.map_some,Option.some.injEq] at h
   split at h
   ·cases h;exact ⟨_,rfl⟩
   ·cases h
theorem xi {K:PySem.W.Frag} (st:StE K G H σ ρ) (n:Nat) (ix:List Nat):StE K G H (iB n ix σ) (gG n ix ρ):=by
 refine ⟨st.sub,by simp [gG,iB],fun j d h=>?_,fun j m C p fs h=>absurd h (NoOwn.obj oM j m C p fs)⟩
 obtain ⟨k,i,rfl,e1,e2⟩:=AC h
 obtain ⟨v,h1,h2⟩:=st.val i d e2
 refine ⟨v,?_,h2⟩
 unfold iB
 rw [List.getElem?_append_right (by simp),List.length_replicate,Nat.add_sub_cancel,List.getElem?_map,e1]
 simp [h1]
theorem Ds {h₁:Heap} {tk:Nat} {m:Str->Option Value} {n:Nat} (ok:CompOkT X scope n N' ix) (hcalm:X.calm=true) (I:Inv X pins σ H s) (hf:∀ b∈fp,pe X pins H b) (hfl:∀ b∈fp,b<s.heap.objs.size)
 (hC:s.heap.objs.size<=C) (hn:h₁.Ns C m) (old:∀ b o,s.heap.get? b=some o->h₁.get? b=some o) (un:Un (frs X.stack) fp H H' s.heap h₁) (hok:HOk X.prog X.w H' h₁) (hfC:H' C=none) (hfc:∀ c:Addr,c<s.heap.objs.size->H c=none->H' c=none) :
  Inv (bT X N' scope C s H fp) [] (iB n ix σ) H' { s with heap:=h₁,toks:=tk }:=by
 have cl:∀ y c,(yQ X.env scope.names []).lookup y=some c->X.env.cells.lookup y=some c:=wY scope.names [] (fun y c h=>by simp at h)
 have nlt:N'.length=n+ix.length:=by
  have h1:=congrArg List.length ok.tl
  rw [List.length_drop,List.length_map] at h1
  have:=ok.le
  omega
 refine ⟨⟨I.ok.mod,by show (relabel scope X.env).kind=_;exact ok.kind,I.ok.glob,I.ok.blt,hC,?_,?_,?_,I.ok.hd,I.ok.frames,.inl rfl,?_,I.bs,Nat.le_trans I.ok.bsz I.sz,?_,?_,I.stack,I.stkFree,I.ok.tabs.un I.base⟩,rfl,I.bare,un,?_,?_,hfC,?_,?_,hok,?_⟩
 ·intro y z c h1 h2
  exact I.ok.inj y z c (cl y c h1) (cl z c h2)
 ·intro y hy
  have h1:(y,NameKind.free)∈scope.names:=by
   have hy':(relabel scope X.env).names.lookup y=some .cell\/(relabel scope X.env).names.lookup y=some .free:=hy
   have mem:∀ k,(relabel scope X.env).names.lookup y=some k->(k=.cell\/k=.free)->(y,NameKind.free)∈scope.names:=fun k e hk=>by
    have hm:=PySem.mem_of_lookup e
    obtain ⟨⟨n,k'⟩,hm1,hm2⟩:=List.mem_map.mp hm
    dsimp only at hm2
    split at hm2
    ·rename_i hc
     cases hm2
     have:k'=.free:=by
      have:=(Bool.and_eq_true _ _ ▸ (Bool.and_eq_true _ _ ▸ hc).1).1
      simpa using this
     rw [<- this];exact hm1
    ·cases hm2
     rcases hk with rfl|rfl
     ·exact absurd rfl (ok.cell _ hm1)
     ·exact hm1
   rcases hy' with h|h
   ·exact mem _ h (.inl rfl)
   ·exact mem _ h (.inr rfl)
  have hc:=I.ok.has y (.inl (ok.fr _ h1 rfl))
  exact pV scope.names [] y (.inr ⟨h1,hc⟩)
 ·intro y c hfn;cases hfn
 ·intro b hb
  obtain ⟨f0,f1,f2,f3,f4,f5⟩:=hf b hb
  exact ⟨fun z=>absurd (hfl b hb) (by rw [z];exact Nat.not_lt.mpr hC),fun y c h=>f4 y c (cl y c h)⟩
 ·intro b o e hb
  obtain ⟨f0,f1,f2,f3,f4,f5⟩:=hf b hb
  rcases f3 with f3|f3
  ·exact I.ok.noex b o e f3
  ·exact absurd (Heap.lt_size (I.ok.bs b o e).1) (Nat.not_lt.mpr f3)
 ·intro b hb hb'
  obtain ⟨f0,f1,f2,f3,f4,f5⟩:=hf b hb
  rcases List.mem_cons.mp (I.stkSub b hb') with e|e
  ·exact f1 e
  ·exact f2 e
 ·refine ⟨m,hn,fun i y v h1 h2 h3=>?_⟩
  have h1:N'[i]?=some y:=h1
  have h2:(iB n ix σ)[i]?=some (some v):=h2
  by_cases hi:i<n
  ·unfold iB at h2
   rw [List.getElem?_append_left (by simpa using hi),List.getElem?_replicate,if_pos hi] at h2;cases h2
  ·unfold iB at h2
   rw [List.getElem?_append_right (by simpa using Nat.not_lt.1 hi),List.length_replicate,List.getElem?_map] at h2
   cases e:ix[i - n]? with
   | none=>rw [e] at h2;cases h2
   | some i0=>
    rw [e] at h2
    have h2':σ[i0]?=some (some v):=by
     cases q:σ[i0]? with
     | none=>rw [Option.map_some,q] at h2;cases h2
     | some z=>rw [Option.map_some,q] at h2;have:=Option.some.inj h2;rw [<- this];rfl
    have ht:(N'.drop n)[i - n]?=some y:=by rw [List.getElem?_drop,Nat.add_sub_cancel' (Nat.not_lt.1 hi)];exact h1
    have hy:X.N[i0]?=some y:=by
     have ht2:=ht
     rw [ok.tl,List.getElem?_map,e] at ht2
     have hl:=ok.lt i0 (List.mem_of_getElem? e)
     have q:=Option.some.inj ht2
     rw [List.getElem?_eq_getElem hl]
     rw [<- q]
     show some X.N[i0]=some (X.N.getD i0 Str.empty)
     rw [List.getD_eq_getElem?_getD,List.getElem?_eq_getElem hl]
     rfl
    obtain ⟨fr1,fr2⟩:=ok.fre y (List.mem_of_getElem? ht)
    have kc:=ok.fr _ fr2 rfl
    obtain ⟨m0,hn0,hl⟩:=I.loc
    obtain ⟨u,ru,lk⟩:=hl i0 y v hy h2' (.inr (.inl kc))
    refine ⟨u,ru,.inr ⟨.inl (kW I.ok.kind fr1 kc),?_⟩⟩
    rcases lk with ⟨z,_⟩|⟨_,c,hc,hcell⟩
    ·rw [kc] at z;cases z
    ·obtain ⟨c',hc'⟩:=pV scope.names [] y (.inr ⟨fr2,c,hc⟩)
     have:=cl y c' hc'
     rw [hc] at this
     cases this
     exact ⟨c,hc',hcell.keeps old⟩
 ·intro y c h
  obtain ⟨v,q⟩:=I.cell y c (cl y c h)
  exact ⟨v,q.keeps old⟩
 ·intro y c h
  obtain ⟨v,q⟩:=I.cell y c (cl y c h)
  exact hfc c q.lt (I.freeC y c (cl y c h))
 ·intro p hp
  exact absurd (show p∈([]:List (Addr×Obj)) from hp) (by simp)
 ·show (iB n ix σ).length=N'.length
  rw [nlt];simp [iB]
theorem xO {prog:Program} {w:World} {A:Around} {R':Result->Shared->Prop} {elt target:Expr} {ifs:List Expr} {it acc:Value} {env:Env} (I:Nat->Shared->Prop)
 (turn:∀ n s,I n s->wpAny (model prog w) A (pyNext it) (fun r s₁=>match r with
 | none=>R' (.ok .next) s₁
 | some v=>wpAny (model prog w) A (letOwnedTupleGo target it v) (fun _ s₁'=>wpAny (model prog w) A (assign target env v) (fun _ s₂=>
 wpAny (model prog w) A (forIn ifs true fun c r=>if r=true then do let ok <- isTrue c env (eval c env);pure (ForInStep.yield ok) else pure (ForInStep.yield r)) (fun ok s₃=>
 if ok=true then wpAny (model prog w) A (eval elt env) (fun x s₄=>
 wpAny (model prog w) A (call (.builtin "list.append") [acc,x]) (fun _ s₅=>∃ m,m<n/\I m s₅) (fun _ _=>False) s₄) (fun _ _=>False) s₃
 else ∃ m,m<n/\I m s₃) (fun _ _=>False) s₂) (fun _ _=>False) s₁') (fun _ _=>False) s₁) (fun _ _=>False) s)
 (n:Nat) (h:I n s) :
  codeAny (model prog w) A (.compLoop (.ListComp elt [⟨target,iter,ifs,0⟩] scope pos) 0 it acc env) R' s:=by
 refine codeAny_loop rfl I (fun n s hI=>?_) n h
 show wpAny _ A ((compTurn (.ListComp elt [⟨target,iter,ifs,0⟩] scope pos) 0 it acc env).onRaise (fun x=>do noteFrame x env;theTreesLotGoes x)) _ _ s
 refine wpAny_noted ?_
 rw [compTurn_list]
 refine wpAny_bind (wpAny_standAt (wpAny_bind (wpAny_mono (turn n s hI) (fun r s₁ h₁=>?_) fun _ _ z=>z.elim)))
 cases r with
 | none=>exact wpAny_pure h₁
 | some v=>
  refine wpAny_bind (wpAny_mono h₁ (fun _ s₁' h₁'=>?_) fun _ _ z=>z.elim)
  refine wpAny_bind (wpAny_mono h₁' (fun _ s₂ h₂=>wpAny_bind (wpAny_mono h₂ (fun ok s₃ h₃=>?_) fun _ _ z=>z.elim)) fun _ _ z=>z.elim)
  cases ok with
  | false=>exact wpAny_pure ⟨rfl,h₃⟩
  | true=>
   exact wpAny_bind (wpAny_bind (wpAny_mono h₃ (fun x s₄ h₄=>wpAny_bind (wpAny_mono h₄ (fun _ s₅ h₅=>wpAny_pure (wpAny_pure ⟨rfl,h₅⟩)) fun _ _ z=>z.elim)) fun _ _ z=>z.elim))
theorem wO:∀ d ρ ρ',kU i d ρ=.ok ρ'->NoOwn ρ->NoOwn ρ':=by
 intro d ρ ρ' e h j x q
 have e':ρ.set i (some (.val d))=ρ':=R.ok.inj e
 rw [<- e',List.getElem?_set] at q
 split at q
 ·split at q
  ·cases q;exact ⟨d,rfl⟩
  ·cases q
 ·exact h j x q
theorem ju {n : Nat} {tn : Nat -> Heap -> Prop} {J : It} {items : List D} {Q : VK} {RR : Value -> Addr -> Result -> Shared -> Prop} {E : Value -> Shared -> Prop} (ok : CompOkT X scope n N' ix) (hcalm : X.calm = true) (hg : ∀ C s₂ H₂ fp, PGF (bT X N' scope C s₂ H₂ fp) tgt asg) (hown : ∀ d ρ ρ', asg d ρ = .ok ρ' -> (NoOwn ρ) -> NoOwn ρ')
 (he : ∀ C s₂ H₂ fp, QF (bT X N' scope C s₂ H₂ fp) elt ge) (ht : ∀ C s₂ H₂ fp, PTs (bT X N' scope C s₂ H₂ fp) ifs gt)
 (I : Inv X pins σ H s) (T : Turn X.prog X.w X.K tgt J fp it tn) (st0 : tn 0 s.heap) (hf : ∀ b ∈ fp, pe X pins H b) (st : StE X.K G H σ ρ) (hi : ItOk X.K G J items)
 (h : (gC asg gt ge items (gG n ix ρ) >>= fun ds => if ds.length <= sizeLine then R.ok ds else .no).post (yw X.K G H Q) (Exx X σ G H))
 (hR : ∀ (Dd C : Addr) (s' : Shared) (m : Str -> Option Value) (vs : List V) (G' H' : Hp), Up G H G' H' -> H' Dd = none -> C ≠ Dd -> (∀ ds, Reps X.K G' vs ds -> True) -> Q (.ref Dd) (upd H' Dd (.lst vs)) -> s'.heap.Ns C m -> s'.os = s.os -> AllBare s'.gens -> H' C = none -> s.heap.objs.size <= C ->
 Un (frs X.stack) fp H (upd H' Dd (.lst vs)) s.heap s'.heap -> HOk X.prog X.w (upd H' Dd (.lst vs)) s'.heap -> RR (.ref Dd) C (.ok .next) s') :
    wpAny (model X.prog X.w) X.A (newList []) (fun acc s₃ => wpAny (model X.prog X.w) X.A (newFunctionEnv scope X.env.globals (yQ X.env scope.names []) [] X.env.qual none .none (some X.env)) (fun cenv s₄ =>
      codeAny (model X.prog X.w) X.A (.compStart (.ListComp elt [⟨tgt, iter, ifs, 0⟩] scope pos) 0 (.ref it) acc { cenv with scope := relabel scope X.env }) (RR acc cenv.locals) s₄) E s₃) E s := by
  have hfl : ∀ b ∈ fp, b < s.heap.objs.size := fun b hb => let ⟨o, e, _⟩ := T.obj 0 s.heap st0 b hb; Heap.lt_size e
  refine wpAny_newObj_type (wpAny_newFunctionEnv ok.cell (by intro y hy; simp at hy) (fun h₁ hns₁ hsb₁ => ?_) ok.kind)
  dsimp only at hns₁ hsb₁ ⊢
  generalize hH2 : s.heap.push { cls := .type "list", dict := none, data := .seq ([] : List Value).toArray } = Hq at hns₁ hsb₁ ⊢
  have hC : Hq.objs.size = s.heap.objs.size + 1 := by rw [<- hH2, Heap.size_push]
  have hDC : s.heap.objs.size ≠ Hq.objs.size := by rw [hC]; exact Nat.ne_of_lt (Nat.lt_succ_self _)
  have hCle : s.heap.objs.size <= Hq.objs.size := by rw [hC]; exact Nat.le_succ _
  have old : ∀ b o, s.heap.get? b = some o -> h₁.get? b = some o := fun b o e =>
    hsb₁.extBut b o (by rw [hC]; exact Nat.ne_of_lt (Nat.lt_succ_of_lt (Heap.lt_size e))) (Heap.get?_push_of_some _ (hH2 ▸ Heap.get?_push_of_some _ e))
  have hacc : h₁.get? s.heap.objs.size = some { cls := .type "list", data := .seq ([] : List Value).toArray } := hsb₁.extBut _ _ hDC (Heap.get?_push_of_some _ (hH2 ▸ Heap.get?_push_size _ rfl))
  have hD0 : H s.heap.objs.size = none := I.fresh
  have hC0 : H Hq.objs.size = none := I.hok.fresh hCle
  have st0' : tn 0 h₁ := T.keep 0 _ _ st0 fun b hb o e => old b o e
  -- the block's state at its beginning
  have I0 : ∀ tk, Inv (bT X N' scope Hq.objs.size s H fp) [] (iB n ix σ) (upd H s.heap.objs.size (.lst [])) { s with heap := h₁, toks := tk } := fun tk => by
    refine Ds ok hcalm I hf hfl hCle hns₁ old (Un.laid old (Nat.le_refl _) hD0) (I.hok.laid old (Nat.le_refl _) ⟨Nat.zero_le _, [], 0, .nil, hacc⟩) (by rw [aU hDC.symm]; exact hC0) fun c hc e => ?_
    rw [aU (Nat.ne_of_lt hc)]; exact e
  have loop : ∀ tk, codeAny (model X.prog X.w) X.A (.compLoop (.ListComp elt [⟨tgt, iter, ifs, 0⟩] scope pos) 0 (.ref it) (.ref s.heap.objs.size) (compEnvC scope (yQ X.env scope.names []) Hq.objs.size X.env))
      (RR (.ref s.heap.objs.size) Hq.objs.size) { s with heap := h₁, toks := tk } := fun tk => by
    have fpk : ∀ {pins' : List (Addr × Obj)} {σ' : St} {H' : Hp} {s' : Shared}, Inv (bT X N' scope Hq.objs.size s H fp) pins' σ' H' s' -> pins' = [] -> (∀ b ∈ fp, H' b = none) -> ∀ b ∈ fp, pe (bT X N' scope Hq.objs.size s H fp) pins' H' b := fun I' e hn b hb =>
      ⟨hn b hb, (I'.ok.exf b hb).1, I'.ok.exfs b hb, .inl hb, (I'.ok.exf b hb).2, by subst e; intro p hp; exact absurd (show p ∈ ([] : List (Addr × Obj)) from hp) (by simp)⟩
    refine xO (fun nn s' => ∃ (i : Nat) (σ' : St) (G' H' : Hp) (ρ' : Ev) (vs : List V) (ys : List D), nn = items.length - i /\ i <= items.length /\ Inv (bT X N' scope Hq.objs.size s H fp) [] σ' H' s' /\ tn i s'.heap /\ (∀ b ∈ fp, H' b = none) /\
      H' s.heap.objs.size = some (.lst vs) /\ G' s.heap.objs.size = none /\ Up G H G' H' /\ StE X.K G' H' σ' ρ' /\ (NoOwn ρ') /\ Reps X.K G' vs ys /\
      (gC asg gt ge (items.drop i) ρ' >>= fun zs => if (ys ++ zs).length <= sizeLine then R.ok (ys ++ zs) else .no).post (yw X.K G H Q) (Exx X σ G H)) ?_ items.length
      ⟨0, iB n ix σ, G, upd H s.heap.objs.size (.lst []), gG n ix ρ, [], [], by simp, Nat.zero_le _, I0 tk, st0', fun b hb => by rw [aU (Nat.ne_of_lt (hfl b hb))]; exact (hf b hb).1, bc, st.sub.free hD0,
        ⟨fun a o e => by rw [aU (aN e (st.sub.free hD0))]; exact st.sub a o e, .refl _, .into hD0, fun _ _ e => .inl e⟩,
        ⟨fun a o e => by rw [aU (aN e (st.sub.free hD0))]; exact st.sub a o e, (xi st n ix).len, (xi st n ix).val, fun j m C p fs h => absurd h (NoOwn.obj oM j m C p fs)⟩, oM, .nil, by simpa using h⟩
    rintro nn s' ⟨i, σ', G', H', ρ', vs, ys, rfl, hil, I', tn', fr', hD', gD', up', st', no', rp', h'⟩
    have hIt := hi i G' H' up'.gg st'.sub
    by_cases hlt : i < items.length
    · -- a turn
      have hd : items.drop i = items[i] :: items.drop (i + 1) := List.drop_eq_getElem_cons hlt
      rw [hd] at h'
      obtain ⟨go, yl⟩ := hIt.1 items[i] (by simp [hlt])
      refine wpAny_mono (T.item (bT X N' scope Hq.objs.size s H fp) rfl rfl rfl hcalm i [] s' σ' H' (fun _ _ => False) I' (fpk I' rfl fr') tn' go) (fun r s1 ⟨u, hr, h1⟩ => ?_) fun _ _ z => z
      subst hr
      refine wpAny_mono h1 (fun _ s2 ⟨x2, H2, I2, r2, y2, tn2, fr2⟩ => ?_) fun _ _ z => z
      obtain ⟨G2, up2, rep2⟩ := yl x2 H2 y2
      have I2p := I2.pinned (fpk I2 rfl fr2) (T.obj _ _ tn2)
      have st2 : StE X.K G2 H2 σ' ρ' := st'.up up2
      have sr2 : StR X.K G2 H2 G2 H2 σ' ρ' := ⟨st2, up2.sub, .refl up2.sub, fun j ds e => absurd e (no'.own j ds), fun j k ds es l e => absurd e (no'.own j ds), no'.ob⟩
      have ea : ∃ ρ1, asg items[i] ρ' = .ok ρ1 := by
        unfold gC at h'
        cases q : asg items[i] ρ' with
        | ok k => exact ⟨k, rfl⟩
        | _ => rw [q] at h'; exact h'.elim
      obtain ⟨ρ1, ea⟩ := ea
      unfold gC at h'
      rw [ea] at h'
      simp only [dH, R.ok_bind] at h'
      refine wpAny_mono (hg Hq.objs.size s H fp _ s2 σ' H2 x2 u (fun σ3 H3 => H3 = H2 /\ StR X.K G2 H2 G2 H2 σ3 ρ1) I2p r2
        ⟨G2, H2, G2, ρ', items[i], _, sr2, rep2, ea, fun σ3 q => ⟨rfl, q⟩⟩) (fun _ s3 ⟨σ3, H3, I3, e3, sr3⟩ => ?_) fun _ _ z => z
      subst e3
      have no3 := hown _ _ _ ea no'
      have hD2 : H3 s.heap.objs.size = some (.lst vs) := up2.hh _ _ hD'
      have gD2 : G2 s.heap.objs.size = none := by
        cases q : G2 s.heap.objs.size with
        | none => rfl
        | some o =>
          rcases up2.fr _ _ q with z | z
          · rw [gD'] at z; cases z
          · rw [hD'] at z; cases z
      -- the tests
      have ek : ∃ k, gt ρ1 = .ok k := by
        cases q : gt ρ1 with
        | ok k => exact ⟨k, rfl⟩
        | _ => rw [q] at h'; exact h'.elim
      obtain ⟨k, ek⟩ := ek
      rw [ek] at h'
      simp only [dH, R.ok_bind] at h'
      refine wpAny_mono (ht Hq.objs.size s H fp _ s3 σ3 H3 (fun b H4 => b = k /\ ∃ G4, Up G2 H3 G4 H4) I3 ⟨G2, _, sr3.e, by rw [ek]; exact fun b G4 H4 u4 e4 => ⟨e4, G4, u4⟩⟩) (fun b s4 ⟨H4, I4, eb, G4, up4⟩ => ?_) fun _ _ z => z
      subst eb
      have next : ∀ {H7 : Hp} {s7 : Shared} {G7 : Hp} {vs7 : List V} {ys7 : List D}, Inv (bT X N' scope Hq.objs.size s H fp) ([] ++ sP fp s2.heap) σ3 H7 s7 -> H7 s.heap.objs.size = some (.lst vs7) -> G7 s.heap.objs.size = none -> Up G H G7 H7 -> StE X.K G7 H7 σ3 ρ1 -> Reps X.K G7 vs7 ys7 ->
          (gC asg gt ge (items.drop (i + 1)) ρ1 >>= fun zs => if (ys7 ++ zs).length <= sizeLine then R.ok (ys7 ++ zs) else .no).post (yw X.K G H Q) (Exx X σ G H) ->
          ∃ m, m < items.length - i /\ ∃ (i : Nat) (σ' : St) (G' H' : Hp) (ρ' : Ev) (vs : List V) (ys : List D), m = items.length - i /\ i <= items.length /\ Inv (bT X N' scope Hq.objs.size s H fp) [] σ' H' s7 /\ tn i s7.heap /\ (∀ b ∈ fp, H' b = none) /\
            H' s.heap.objs.size = some (.lst vs) /\ G' s.heap.objs.size = none /\ Up G H G' H' /\ StE X.K G' H' σ' ρ' /\ (NoOwn ρ') /\ Reps X.K G' vs ys /\
            (gC asg gt ge (items.drop i) ρ' >>= fun zs => if (ys ++ zs).length <= sizeLine then R.ok (ys ++ zs) else .no).post (yw X.K G H Q) (Exx X σ G H) := fun {H7 s7 G7 vs7 ys7} I7 hD7 gD7 up7 st7 rp7 h7 => by
        have pin : ∀ b ∈ fp, ∀ o, s2.heap.get? b = some o -> s7.heap.get? b = some o /\ H7 b = none := fun b hb o e => by
          have := I7.pin (b, o) (List.mem_append_right _ (List.mem_append_right _ (ki hb e)))
          exact ⟨this.1, this.2.1⟩
        refine ⟨items.length - (i + 1), by omega, i + 1, σ3, G7, H7, _, vs7, ys7, rfl, hlt, I7.unpinned, T.keep _ _ _ tn2 fun b hb o e => (pin b hb o e).1, fun b hb => ?_, hD7, gD7, up7, st7, no3, rp7, h7⟩
        obtain ⟨o, e, _⟩ := T.obj _ _ tn2 b hb
        exact (pin b hb o e).2
      have hD4 : H4 s.heap.objs.size = some (.lst vs) := up4.hh _ _ hD2
      have gD4 : G4 s.heap.objs.size = none := by
        cases q : G4 s.heap.objs.size with
        | none => rfl
        | some o =>
          rcases up4.fr _ _ q with z | z
          · rw [gD2] at z; cases z
          · rw [hD2] at z; cases z
      cases b with
      | false =>
        simp only [Bool.false_eq_true, if_false] at h' ⊢
        exact next I4 hD4 gD4 ((up'.trans up2).trans up4) (sr3.e.up up4) ((rp'.mono up2.gg).mono up4.gg) h'
      | true =>
        simp only [if_true] at h' ⊢
        have ex : ∃ y, ge ρ1 = .ok y := by
          cases q : ge ρ1 with
          | ok y => exact ⟨y, rfl⟩
          | _ => rw [q] at h'; exact h'.elim
        obtain ⟨y, ey⟩ := ex
        rw [ey] at h'
        simp only [dH, R.ok_bind] at h'
        refine wpAny_mono (he Hq.objs.size s H fp _ s4 σ3 H4 (fun v H5 => ∃ G5, Up G4 H4 G5 H5 /\ Rep X.K G5 v y) I4 ⟨G4, _, sr3.e.up up4, by rw [ey]; exact fun v G5 H5 u5 r5 => ⟨G5, u5, r5⟩⟩) (fun u5 s5 ⟨v5, H5, I5, r5, G5, up5, rep5⟩ => ?_) fun _ _ z => z
        have hD5 : H5 s.heap.objs.size = some (.lst vs) := up5.hh _ _ hD4
        have gD5 : G5 s.heap.objs.size = none := by
          cases q : G5 s.heap.objs.size with
          | none => rfl
          | some o =>
            rcases up5.fr _ _ q with z | z
            · rw [gD4] at z; cases z
            · rw [hD4] at z; cases z
        have ups := ((up'.trans up2).trans up4).trans up5
        rcases kr (asg := asg) (gt := gt) (ge := ge) (items.drop (i + 1)) ρ1 with ⟨zs, ez⟩ | ez
        · rw [ez] at h'
          simp only [R.ok_bind] at h'
          have hz : (ys ++ y :: zs).length <= sizeLine := by
            by_cases hz : (ys ++ y :: zs).length <= sizeLine
            · exact hz
            · rw [if_neg hz] at h'; exact h'.elim
          have hvl : vs.length < sizeLine := by
            rw [rp'.length]
            rw [List.length_append, List.length_cons] at hz
            omega
          refine wpAny_mono (rH (X := bT X N' scope Hq.objs.size s H fp) _ s5 σ3 H5 (.ref s.heap.objs.size) [v5] (.ref s.heap.objs.size) [u5] (fun _ H6 => H6 = upd H5 s.heap.objs.size (.lst (vs ++ [v5]))) I5 rfl (.cons r5 .nil)
            ⟨_, vs, v5, rfl, rfl, hD5, hvl, rfl⟩) (fun _ s6 ⟨_, H6, I6, _, e6⟩ => ?_) fun _ _ z => z
          subst e6
          have sub6 : Same G5 (upd H5 s.heap.objs.size (.lst (vs ++ [v5]))) := fun a o e => by rw [aU (aN e gD5)]; exact up5.sub a o e
          refine next I6 bc gD5 ⟨sub6, ups.gg, fun a o e => ?_, ups.fr⟩ ?_ (ys7 := ys ++ [y]) ((((rp'.mono up2.gg).mono up4.gg).mono up5.gg).append (.cons rep5 .nil)) ?_
          · rw [aU (aN e hD0)]; exact ups.hh a o e
          · exact ⟨sub6, ((sr3.e.up up4).up up5).len, ((sr3.e.up up4).up up5).val, fun j m C p fs h => absurd h (no3.obj j m C p fs)⟩
          · rw [ez]
            simp only [R.ok_bind, List.append_assoc, List.singleton_append]
            exact h'
        · rw [ez] at h'; exact h'.elim
    · -- the end
      have hie : i = items.length := by omega
      subst hie
      rw [List.drop_length] at h'
      unfold gC at h'
      simp only [R.ok_bind, List.append_nil] at h'
      refine wpAny_mono (T.done (bT X N' scope Hq.objs.size s H fp) rfl rfl rfl hcalm items.length [] s' σ' H' (fun _ _ => False) I' (fpk I' rfl fr') tn' (hIt.2 (Nat.le_refl _))) (fun r s1 ⟨hr, I1⟩ => ?_) fun _ _ z => z
      subst hr
      have hz : ys.length <= sizeLine := by
        by_cases hz : ys.length <= sizeLine
        · exact hz
        · rw [if_neg hz] at h'; exact h'.elim
      rw [if_pos hz] at h'
      have eH : upd (fun a => if a = s.heap.objs.size then none else H' a) s.heap.objs.size (.lst vs) = H' := by
        funext a
        unfold upd
        by_cases e : a = s.heap.objs.size
        · subst e; rw [if_pos rfl]; exact hD'.symm
        · rw [if_neg e]
          show (if a = s.heap.objs.size then none else H' a) = _
          rw [if_neg e]
      have hn : (fun a => if a = s.heap.objs.size then none else H' a) s.heap.objs.size = none := by simp
      have upn : Up G H G' (fun a => if a = s.heap.objs.size then none else H' a) := by
        refine ⟨fun a o e => ?_, up'.gg, fun a o e => ?_, up'.fr⟩
        · have : a ≠ s.heap.objs.size := aN e gD'
          simp only [this, if_false]; exact up'.sub a o e
        · have : a ≠ s.heap.objs.size := aN e hD0
          simp only [this, if_false]; exact up'.hh a o e
      obtain ⟨m1, hm1, _⟩ := I1.loc
      refine hR s.heap.objs.size Hq.objs.size s1 m1 vs G' _ upn hn hDC.symm (fun _ _ => trivial) (h' _ vs G' _ upn hn rp') hm1 I1.os I1.bare ?_ hCle (by rw [eH]; exact I1.base) (by rw [eH]; exact I1.hok)
      have := I1.free
      show (if Hq.objs.size = s.heap.objs.size then none else H' Hq.objs.size) = none
      rw [if_neg hDC.symm]; exact this
  exact codeAny_compStart_list (loop _) (T.self X.A 0 _ _ _ st0' (loop _))

theorem tR {tn:Nat->Heap->Prop} {J:It} {items:List D} {Q:VK} {RR:Value->Addr->Result->Shared->Prop} {E:Value->Shared->Prop} (ok:CompOk X scope x N' ix) (hcalm:X.calm=true)
 (he:∀ C s₂ H₂ fp,QF (bT X N' scope C s₂ H₂ fp) elt ge) (ht:∀ C s₂ H₂ fp,PTs (bT X N' scope C s₂ H₂ fp) ifs gt)
 (I:Inv X pins σ H s) (T:Turn X.prog X.w X.K (.Name x px) J fp it tn) (st0:tn 0 s.heap) (hf:∀ b∈fp,pe X pins H b) (st:StE X.K G H σ ρ) (hi:ItOk X.K G J items)
 (h:(eO gt ge items (gW ix ρ)>>=fun ds=>if ds.length<=sizeLine then R.ok ds else .no).post (yw X.K G H Q) (Exx X σ G H))
 (hR:∀ (Dd C:Addr) (s':Shared) (m:Str->Option Value) (vs:List V) (G' H':Hp),Up G H G' H'->H' Dd=none->C≠Dd->(∀ ds,Reps X.K G' vs ds->True)->Q (.ref Dd) (upd H' Dd (.lst vs))->s'.heap.Ns C m->s'.os=s.os->AllBare s'.gens->H' C=none->s.heap.objs.size<=C->
 Un (frs X.stack) fp H (upd H' Dd (.lst vs)) s.heap s'.heap->HOk X.prog X.w (upd H' Dd (.lst vs)) s'.heap->RR (.ref Dd) C (.ok .next) s') :
  wpAny (model X.prog X.w) X.A (newList []) (fun acc s₃=>wpAny (model X.prog X.w) X.A (newFunctionEnv scope X.env.globals (yQ X.env scope.names []) [] X.env.qual none .none (some X.env)) (fun cenv s₄=>
   codeAny (model X.prog X.w) X.A (.compStart (.ListComp elt [⟨.Name x px,iter,ifs,0⟩] scope pos) 0 (.ref it) acc { cenv with scope:=relabel scope X.env }) (RR acc cenv.locals) s₄) E s₃) E s:=
 ju (n:=1) (asg:=kU 0) ok.t hcalm (fun C s₂ H₂ fp=>dU (X:=bT X N' scope C s₂ H₂ fp) (pos:=px) 0 ok.nd ok.hd (.inl (lookup_relabel_local ok.loc)) (.inr (lookup_relabel_local ok.loc))) wO he ht I T st0 hf st hi h hR
end
inductive O where
 | nx (ρ:Ev)|rt (d:D)|re (d:D) (ρ:Ev)|bk (ρ:Ev)|ct (ρ:Ev)|ex (C:Addr) (ρ:Ev)|no
noncomputable def FlyS (X:Cx) (G₀ H₀:Hp) (ρ:Ev) (C:Addr) (e:Value) (s':Shared):Prop:=∃ σ H₁ pins s₁ a,e=.ref a/\Inv X pins σ H₁ s₁/\
 ((∃ G₁ h' vs,StR X.K G₀ H₀ G₁ H₁ σ ρ/\Heap.MadeExcOf s₁.heap h' a (.ref C) vs/\s'={ s₁ with heap:=h' })\/(∃ G' H',EM X.prog X.w X.stack H₁ s₁ a C H' s'/\StR X.K G₀ H₀ G' H' σ ρ)\/
  ∃ G' H' L,X.env.frame=some L/\En X pins L H₁ s₁ a C H' s'/\StR X.K G₀ H₀ G' H' σ ρ)
theorem FlyS.of {H₀ G₁ H₁:Hp} {e:Value} (sr:StR X.K G₀ H₀ G₁ H₁ σ ρ) (f:Mh X σ G₁ H₁ C e s'):FlyS X G₀ H₀ ρ C e s':=by
 obtain ⟨pins,s₁,a,e,I,way⟩:=f
 refine ⟨σ,H₁,pins,s₁,a,e,I,?_⟩
 rcases way with ⟨h',vs,m,z⟩|⟨G',H',fl,u⟩|⟨G',H',L,hL,fl,u⟩
 ·exact .inl ⟨G₁,h',vs,sr,m,z⟩
 ·exact .inr (.inl ⟨G',H',fl,sr.ups u⟩)
 ·exact .inr (.inr ⟨G',H',L,hL,fl,sr.ups u⟩)
theorem FlyS.map {A B A' B':Hp} {ρ':Ev} {e:Value} (f:FlyS X A B ρ C e s') (h:∀ σ G H,StR X.K A B G H σ ρ->StR X.K A' B' G H σ ρ'):FlyS X A' B' ρ' C e s':=by
 obtain ⟨σ,H₁,pins,s₁,a,e,I,way⟩:=f
 refine ⟨σ,H₁,pins,s₁,a,e,I,?_⟩
 rcases way with ⟨G₁,h',vs,sr,m,z⟩|⟨G',H',fl,sr⟩|⟨G',H',L,hL,fl,sr⟩
 ·exact .inl ⟨G₁,h',vs,h _ _ _ sr,m,z⟩
 ·exact .inr (.inl ⟨G',H',fl,h _ _ _ sr⟩)
 ·exact .inr (.inr ⟨G',H',L,hL,fl,h _ _ _ sr⟩)
noncomputable def lj (X:Cx) (G₀ H₀:Hp) (D:Ends) (o:O):Prop:=match o with
 | .nx ρ=>∀ σ G H,StR X.K G₀ H₀ G H σ ρ->D.nx σ H
 | .rt d=>∀ v G H,Up G₀ H₀ G H->Rep X.K G v d->D.rt v H
 | .re d ρ=>∀ v σ G H,StR X.K G₀ H₀ G H σ ρ->Rep X.K G v d->D.rt v H
 | .bk ρ=>∀ σ G H,StR X.K G₀ H₀ G H σ ρ->D.bk σ H
 | .ct ρ=>∀ σ G H,StR X.K G₀ H₀ G H σ ρ->D.ct σ H
 | .ex C ρ=>∀ e s',FlyS X G₀ H₀ ρ C e s'->X.xe e s'
 | .no=>False
noncomputable def tS (X:Cx) (G₀ H₀:Hp) (g:Ev->O):TS:=fun D σ H=>∃ G ρ,StR X.K G₀ H₀ G H σ ρ/\lj X G₀ H₀ D (g ρ)
noncomputable def QSF (X:Cx) (st:Stmt) (g:Ev->O):Prop:=∀ G₀ H₀,PS X st (tS X G₀ H₀ g)
noncomputable def B0 (X:Cx) (st:List Stmt) (g:Ev->O):Prop:=∀ G₀ H₀,PSs X st (tS X G₀ H₀ g)
noncomputable def R.out {α:Type} (m:R α) (ρ:Ev) (k:α->O):O:=match m with
 | .ok a=>k a
 | .ex C=>.ex C ρ
 | .no=>.no
noncomputable def O.seq (o:O) (k:Ev->O):O:=match o with
 | .nx ρ=>k ρ
 | o=>o
section
variable {X:Cx} {st:Stmt} {cJ body a b:List Stmt} {e c tg:Expr} {g g1 g2:Ev->O} {ga:Ev->R D} {gt:Ev->R Bool} {gl:Ev->R (List D)} {pos:Pos}
theorem Exx.of {H₀:Hp} {D:Ends} (sr:StR X.K G₀ H₀ G H σ ρ) (h:lj X G₀ H₀ D (.ex C ρ)):Exx X σ G H C:=fun e s' ⟨G1,H1,u,f⟩=>h e s' (.of (sr.ups u) f)
theorem vp:B0 X [] (fun ρ=>.nx ρ):=fun G₀ H₀ pins s σ H D I h=>by
 obtain ⟨G,ρ,sr,h⟩:=h
 try dsimp only at h
 exact FI pins s σ H D I (h σ G H sr)
theorem tj (h1:QSF X st g1) (h2:B0 X cJ g2):B0 X (st::cJ) (fun ρ=>(g1 ρ).seq g2):=fun G₀ H₀ pins s σ H D I h=>by
 refine qz (h1 G₀ H₀) (h2 G₀ H₀) pins s σ H D I ?_
 obtain ⟨G,ρ,sr,h⟩:=h
 try dsimp only at h
 refine ⟨G,ρ,sr,?_⟩
 cases q:g1 ρ with
 | nx ρ'=>rw [q] at h;exact fun σ' G' H' sr'=>⟨G',ρ',sr',h⟩
 | rt d=>rw [q] at h;exact h
 | re d ρ'=>rw [q] at h;exact h
 | bk ρ'=>rw [q] at h;exact h
 | ct ρ'=>rw [q] at h;exact h
 | ex C ρ'=>rw [q] at h;exact h
 | no=>rw [q] at h;exact h
theorem xR (he:QF X e ga):QSF X (.Return (some e) pos) (fun ρ=>(ga ρ).out ρ .rt):=fun G₀ H₀ pins s σ H D I h=>by
 refine Ei he pins s σ H D I ?_
 obtain ⟨G,ρ,sr,h⟩:=h
 try dsimp only at h
 refine ⟨G,ρ,sr.e,?_⟩
 cases q:ga ρ with
 | ok d=>rw [q] at h;exact fun v G' H' u r=>h v G' H' (sr.up.trans u) r
 | ex C=>rw [q] at h;exact Exx.of sr h
 | no=>rw [q] at h;exact h
theorem vW (he:QF X e ga) (hs:swapsWith e none pos.line X.env=pure false:=by rfl):QSF X (.Expr e pos) (fun ρ=>(ga ρ).out ρ fun _=>.nx ρ):=fun G₀ H₀ pins s σ H D I h=>by
 refine oQ he hs pins s σ H D I ?_
 obtain ⟨G,ρ,sr,h⟩:=h
 try dsimp only at h
 refine ⟨G,ρ,sr.e,?_⟩
 cases q:ga ρ with
 | ok d=>rw [q] at h;exact fun v G' H' u r=>h σ G' H' (sr.ups u)
 | ex C=>rw [q] at h;exact Exx.of sr h
 | no=>rw [q] at h;exact h
theorem zO (hc:QB X c gt) (ha:B0 X a g1) (hb:B0 X b g2):QSF X (.If c a b pos) (fun ρ=>(gt ρ).out ρ fun k=>if k=true then g1 ρ else g2 ρ):=fun G₀ H₀ pins s σ H D I h=>by
 refine H8 hc (ha G₀ H₀) (hb G₀ H₀) pins s σ H D I ?_
 obtain ⟨G,ρ,sr,h⟩:=h
 try dsimp only at h
 refine ⟨G,ρ,sr.e,?_⟩
 cases q:gt ρ with
 | ok k=>
  rw [q] at h
  intro b' G' H' u r
  subst r
  cases b' with
  | true=>rw [if_pos rfl];exact ⟨G',ρ,sr.ups u,by simpa [R.out] using h⟩
  | false=>rw [if_neg Bool.false_ne_true];exact ⟨G',ρ,sr.ups u,by simpa [R.out] using h⟩
 | ex C=>rw [q] at h;exact Exx.of sr h
 | no=>rw [q] at h;exact h
theorem yx (he:QF X e ga) (hg:PGF X tg asg) (hs:swapsWithSole [tg] e pos.line X.env=pure false:=by rfl) (hw:swappedStores [tg] e X.env=pure none:=by rfl)
 (hn:∀ d ρ C,asg d ρ ≠ .ex C:=by intro _ _ _ z;cases z) (h1:(assignEach [tg] X.env).map (·.2)=[assign tg X.env]:=by rfl):QSF X (.Assign [tg] e pos) (fun ρ=>(ga ρ).out ρ fun d=>(asg d ρ).out ρ .nx):=fun G₀ H₀ pins s σ H D I h=>by
 refine oh he hg hs hw h1 pins s σ H D I ?_
 obtain ⟨G,ρ,sr,h⟩:=h
 try dsimp only at h
 refine ⟨G,ρ,sr.e,?_⟩
 cases q:ga ρ with
 | ok d=>
  rw [q] at h
  simp only [R.out] at h
  intro v G' H' u r
  cases q2:asg d ρ with
  | ok ρ'=>rw [q2] at h;exact ⟨G₀,H₀,G',ρ,d,ρ',sr.ups u,r,q2,fun σ' sr'=>h σ' G' H' sr'⟩
  | ex C=>exact absurd q2 (hn d ρ C)
  | no=>rw [q2] at h;exact h.elim
 | ex C=>rw [q] at h;exact Exx.of sr h
 | no=>rw [q] at h;exact h
theorem yj (i:Nat) (hN:X.N.Nodup) (he:QF X e ga) (hi:X.N[i]?=some x:=by rfl) (hx:Loc X.env.scope x:=by first|exact Or.inl rfl|exact Or.inr rfl)
 (hs:swapsWithSole [.Name x p] e pos.line X.env=pure false:=by rfl) (hw:swappedStores [.Name x p] e X.env=pure none:=by rfl) (hf:X.fn x=true\/X.env.scope.names.lookup x=some .local:=by first|exact .inl rfl|exact .inr rfl) :
  QSF X (.Assign [.Name x p] e pos) (fun ρ=>(ga ρ).out ρ fun d=>.nx (ρ.set i (some (.val d)))):=yx he (dU i hN hi hx hf) hs hw
theorem StR.setOwn {K:PySem.W.Frag} {H₀:Hp} (s:StR K G₀ H₀ G H σ ρ) {l:Addr} (hl:H l=none) (r:Reps K G vs ds) (i:Nat) :
  StR K G₀ H₀ G (upd H l (.lst vs)) (σ.set i (some (.ref l))) (ρ.set i (some (.own ds))):=by
 have gl:G l=none:=s.e.sub.free hl
 have sub:Same G (upd H l (.lst vs)):=fun a o e=>by rw [aU (aN e gl)];exact s.e.sub a o e
 have get:∀ (j:Nat) x,(ρ.set i (some (.own ds)))[j]?=some (some x)->(j=i/\x=.own ds/\i<σ.length)\/(j≠i/\ρ[j]?=some (some x)/\(σ.set i (some (.ref l)))[j]?=σ[j]?):=fun j x h=>by
  by_cases e:i=j
  ·subst e
   have hl:i<ρ.length:=by
    have:=(List.getElem?_eq_some_iff.mp h).1
    simpa using this
   rw [List.getElem?_set_self hl] at h
   exact .inl ⟨rfl,by injection (Option.some.inj h) with q;exact q.symm,by rw [s.e.len];exact hl⟩
  ·rw [List.getElem?_set_ne e] at h
   exact .inr ⟨fun z=>e z.symm,h,List.getElem?_set_ne e⟩
 have ob:ObSt K H₀ G (upd H l (.lst vs)) (σ.set i (some (.ref l))) (ρ.set i (some (.own ds))):=by
  obtain ⟨ow,o1,o2⟩:=s.ob
  have nl:∀ {a:Addr} {o:HO},H a=some o->a≠l:=fun e z=>by rw [z,hl] at e;cases e
  refine ⟨fun a=>if a=l then some (i,0) else ow a,fun j es l' h1 h2=>?_,fun j m C p fs h1=>?_⟩
  ·rcases get j _ h1 with ⟨rfl,e,hj⟩|⟨_,e,e'⟩
   ·rw [List.getElem?_set_self hj] at h2;cases h2;exact if_pos rfl
   ·rw [e'] at h2
    obtain ⟨l2,vs2,q1,q2,_⟩:=s.own j es e
    rw [h2] at q1;cases q1
    exact (if_neg (nl q2)).trans (o1 j es l' e h2)
  ·rcases get j _ h1 with ⟨_,e,_⟩|⟨_,e,e'⟩
   ·cases e
   ·rw [e']
    refine ⟨(o2 j m C p fs e).1,(o2 j m C p fs e).2.keep ⟨fun a t o _ q=>?_,.refl _,fun a t o _ _ n=>n,fun a t o q1 q2=>?_,fun a o _ _ n=>n⟩⟩
    ·rw [aU (nl q)];exact q
    ·exact (if_neg (nl q2)).trans q1
 refine ⟨⟨sub,by simp [s.e.len],fun j d' h=>?_,ob.rd⟩,s.sub0,⟨sub,s.up.gg,fun a o e=>?_,s.up.fr⟩,fun j es h=>?_,fun j k es fs l' h1 h2 h3 h4=>?_,ob⟩
 ·rcases get j _ h with ⟨_,e,_⟩|⟨_,e,e'⟩
  ·cases e
  ·rw [e'];exact s.e.val j d' e
 ·rw [aU (aN (s.up.hh a o e) hl)];exact s.up.hh a o e
 ·rcases get j _ h with ⟨rfl,e,hj⟩|⟨_,e,e'⟩
  ·cases e
   exact ⟨l,vs,List.getElem?_set_self hj,bc,gl,s.up.hh.free hl,r⟩
  ·obtain ⟨l',vs',h1,h2,h3,h4,h5⟩:=s.own j es e
   exact ⟨l',vs',by rw [e'];exact h1,by rw [aU (aN h2 hl)];exact h2,h3,h4,h5⟩
 ·rcases get j _ h1 with ⟨rfl,e,hj⟩|⟨nj,e,e'⟩
  ·rcases get k _ h2 with ⟨rfl,f,_⟩|⟨nk,f,f'⟩
   ·rfl
   ·obtain ⟨l2,vs2,q1,q2,_⟩:=s.own k fs f
    rw [List.getElem?_set_self hj] at h3
    rw [f',q1] at h4
    cases h3
    cases h4
    rw [hl] at q2;cases q2
  ·rcases get k _ h2 with ⟨rfl,f,hk⟩|⟨nk,f,f'⟩
   ·obtain ⟨l2,vs2,q1,q2,_⟩:=s.own j es e
    rw [List.getElem?_set_self hk] at h4
    rw [e',q1] at h3
    cases h3
    cases h4
    rw [hl] at q2;cases q2
   ·exact s.inj j k es fs l' e f (e' ▸ h3) (f' ▸ h4)
theorem yO (i:Nat) (hN:X.N.Nodup) (he:QFL X e gl) (hi:X.N[i]?=some x:=by rfl) (hx:Loc X.env.scope x:=by first|exact Or.inl rfl|exact Or.inr rfl)
 (hs:swapsWithSole [.Name x p] e pos.line X.env=pure false:=by rfl) (hw:swappedStores [.Name x p] e X.env=pure none:=by rfl) (hf:X.fn x=true\/X.env.scope.names.lookup x=some .local:=by first|exact .inl rfl|exact .inr rfl) :
  QSF X (.Assign [.Name x p] e pos) (fun ρ=>(gl ρ).out ρ fun ds=>.nx (ρ.set i (some (.own ds)))):=fun G₀ H₀ pins s σ H D I h=>by
 refine oh he (kE (i:=i) hN hi hx hf) hs hw rfl pins s σ H D I ?_
 obtain ⟨G,ρ,sr,h⟩:=h
 try dsimp only at h
 refine ⟨G,ρ,sr.e,?_⟩
 cases q:gl ρ with
 | ok ds=>rw [q] at h;exact fun l vs G' H' u hl r=>h _ G' _ ((sr.ups u).setOwn hl r i)
 | ex C=>rw [q] at h;exact Exx.of sr h
 | no=>rw [q] at h;exact h
theorem StR.mut {K:PySem.W.Frag} {H₀:Hp} (s:StR K G₀ H₀ G H σ ρ) {l:Addr} {es:List D} (e:ρ[i]?=some (some (.own ds))) (hs:σ[i]?=some (some (.ref l))) (r:Reps K G vs es) :
  StR K G₀ H₀ G (upd H l (.lst vs)) σ (ρ.set i (some (.own es))):=by
 obtain ⟨l0,vs0,h1,h2,h3,h4,h5⟩:=s.own i ds e
 rw [hs] at h1
 cases h1
 have sub:Same G (upd H l (.lst vs)):=fun a o e=>by rw [aU (aN e h3)];exact s.e.sub a o e
 have hl:i<ρ.length:=(List.getElem?_eq_some_iff.mp e).1
 have get:∀ (j:Nat) x,(ρ.set i (some (.own es)))[j]?=some (some x)->(j=i/\x=.own es)\/(j≠i/\ρ[j]?=some (some x)):=fun j x h=>by
  by_cases e:i=j
  ·subst e
   rw [List.getElem?_set_self hl] at h
   exact .inl ⟨rfl,by injection (Option.some.inj h) with q;exact q.symm⟩
  ·rw [List.getElem?_set_ne e] at h
   exact .inr ⟨fun z=>e z.symm,h⟩
 have ob:ObSt K H₀ G (upd H l (.lst vs)) σ (ρ.set i (some (.own es))):=by
  obtain ⟨ow,o1,o2⟩:=s.ob
  have ol:=o1 i ds l e hs
  refine ⟨ow,fun j fs l' q1 q2=>?_,fun j m C p fs q1=>?_⟩
  ·rcases get j _ q1 with ⟨rfl,_⟩|⟨nj,f1⟩
   ·exact o1 j ds l' e q2
   ·exact o1 j fs l' f1 q2
  ·rcases get j _ q1 with ⟨_,e'⟩|⟨nj,f1⟩
   ·cases e'
   ·have ne:∀ a t,ow a=some (j,t)->a≠l:=fun a t q z=>by rw [z,ol] at q;cases q;exact nj rfl
    refine ⟨(o2 j m C p fs f1).1,(o2 j m C p fs f1).2.keep ⟨fun a t o q1 q=>?_,.refl _,fun a t o _ _ n=>n,fun a t o q1 _=>q1,fun a o _ _ n=>n⟩⟩
    ·rw [aU (ne a t q1)];exact q
 refine ⟨⟨sub,by simp [s.e.len],fun j d' h=>?_,ob.rd⟩,s.sub0,⟨sub,s.up.gg,fun a o e=>?_,s.up.fr⟩,fun j fs h=>?_,fun j k fs gs l' q1 q2 q3 q4=>?_,ob⟩
 ·rcases get j _ h with ⟨_,e⟩|⟨_,e⟩
  ·cases e
  ·exact s.e.val j d' e
 ·rw [aU (aN e h4)];exact s.up.hh a o e
 ·rcases get j _ h with ⟨rfl,e'⟩|⟨nj,e'⟩
  ·cases e'
   exact ⟨l,vs,hs,bc,h3,h4,r⟩
  ·obtain ⟨l',vs',p1,p2,p3,p4,p5⟩:=s.own j fs e'
   have:l'≠l:=fun z=>by subst z;exact nj (s.inj j i fs ds l' e' e p1 hs)
   exact ⟨l',vs',p1,by rw [aU this];exact p2,p3,p4,p5⟩
 ·rcases get j _ q1 with ⟨rfl,_⟩|⟨nj,f1⟩
  ·rcases get k _ q2 with ⟨rfl,_⟩|⟨nk,f2⟩
   ·rfl
   ·exact s.inj j k ds gs l' e f2 q3 q4
  ·rcases get k _ q2 with ⟨rfl,_⟩|⟨nk,f2⟩
   ·exact s.inj j k fs ds l' f1 e q3 q4
   ·exact s.inj j k fs gs l' f1 f2 q3 q4
noncomputable def frz (i:Nat) (ρ:Ev):Ev:=match ρ[i]? with
 | some (some (.own ds))=>ρ.set i (some (.val (.lst false ds)))
 | _=>ρ
theorem StR.frzTo {K:PySem.W.Frag} {H₀:Hp} (s:StR K G₀ H₀ G H σ ρ) (i:Nat):∃ G',StR K G₀ H₀ G' H σ (L2.frz i ρ)/\(G'=G\/∃ l vs,G l=none/\G'=upd G l (.lst vs)):=by
 unfold L2.frz
 split
 ·rename_i ds e
  obtain ⟨l,vs,h1,h2,h3,h4,h5⟩:=s.own i ds e
  have hl:i<ρ.length:=(List.getElem?_eq_some_iff.mp e).1
  have g0:G₀ l=none:=s.sub0.free h4
  have into:Same G (upd G l (.lst vs)):=.into h3
  have sub:Same (upd G l (.lst vs)) H:=fun a o q=>by
   by_cases ea:a=l
   ·subst ea;rw [bc] at q;rw [<- q];exact h2
   ·rw [aU ea] at q;exact s.e.sub a o q
  have get:∀ (j:Nat) x,(ρ.set i (some (.val (.lst false ds))))[j]?=some (some x)->(j=i/\x=.val (.lst false ds))\/(j≠i/\ρ[j]?=some (some x)):=fun j x h=>by
   by_cases e:i=j
   ·subst e
    rw [List.getElem?_set_self hl] at h
    exact .inl ⟨rfl,by injection (Option.some.inj h) with q;exact q.symm⟩
   ·rw [List.getElem?_set_ne e] at h
    exact .inr ⟨fun z=>e z.symm,h⟩
  have ob:ObSt K H₀ (upd G l (.lst vs)) H σ (ρ.set i (some (.val (.lst false ds)))):=by
   obtain ⟨ow,o1,o2⟩:=s.ob
   have ol:=o1 i ds l e h1
   refine ⟨ow,fun j fs l' q1 q2=>?_,fun j m C p fs q1=>?_⟩
   ·rcases get j _ q1 with ⟨_,e'⟩|⟨nj,f1⟩
    ·cases e'
    ·exact o1 j fs l' f1 q2
   ·rcases get j _ q1 with ⟨_,e'⟩|⟨nj,f1⟩
    ·cases e'
    ·have ne:∀ a t,ow a=some (j,t)->a≠l:=fun a t q z=>by rw [z,ol] at q;cases q;exact nj rfl
     refine ⟨(o2 j m C p fs f1).1,(o2 j m C p fs f1).2.keep ⟨fun a t o _ q=>q,into,fun a t o q1 _ n=>?_,fun a t o q1 _=>q1,fun a o _ _ n=>n⟩⟩
     ·rw [aU (ne a t q1)];exact n
  refine ⟨upd G l (.lst vs),⟨⟨sub,by simp [s.e.len],fun j d' h=>?_,ob.rd⟩,s.sub0,⟨sub,s.up.gg.trans into,s.up.hh,fun a o q=>?_⟩,fun j fs h=>?_,fun j k fs gs l' q1 q2 q3 q4=>?_,ob⟩,.inr ⟨l,vs,h3,rfl⟩⟩
  ·rcases get j _ h with ⟨rfl,e'⟩|⟨_,e'⟩
   ·cases e'
    exact ⟨.ref l,h1,.lst bc (h5.mono into)⟩
   ·obtain ⟨v,p1,p2⟩:=s.e.val j d' e'
    exact ⟨v,p1,p2.mono into⟩
  ·by_cases ea:a=l
   ·subst ea;exact .inr h4
   ·rw [aU ea] at q;exact s.up.fr a o q
  ·rcases get j _ h with ⟨_,e'⟩|⟨nj,e'⟩
   ·cases e'
   ·obtain ⟨l',vs',p1,p2,p3,p4,p5⟩:=s.own j fs e'
    have:l'≠l:=fun z=>by subst z;exact nj (s.inj j i fs ds l' e' e p1 h1)
    exact ⟨l',vs',p1,p2,by rw [aU this];exact p3,p4,p5.mono into⟩
  ·rcases get j _ q1 with ⟨_,e'⟩|⟨nj,f1⟩
   ·cases e'
   ·rcases get k _ q2 with ⟨_,e'⟩|⟨nk,f2⟩
    ·cases e'
    ·exact s.inj j k fs gs l' f1 f2 q3 q4
 ·exact ⟨G,s,.inl rfl⟩
theorem StR.frz {K:PySem.W.Frag} {H₀:Hp} (s:StR K G₀ H₀ G H σ ρ) (i:Nat):∃ G',StR K G₀ H₀ G' H σ (L2.frz i ρ):=
 let ⟨G',h,_⟩:=s.frzTo i;⟨G',h⟩
theorem uu {sts:List Stmt} (i:Nat) (h:B0 X sts g):B0 X sts (fun ρ=>g (frz i ρ)):=fun G₀ H₀ pins s σ H D I q=>by
 obtain ⟨G,ρ,sr,q⟩:=q
 obtain ⟨G',sr'⟩:=sr.frz i
 exact h G₀ H₀ pins s σ H D I ⟨G',_,sr',q⟩
noncomputable def ownAt (ρ:Ev) (i:Nat):R (List D):=match ρ[i]? with
 | some (some (.own ds))=>.ok ds
 | _=>.no
theorem ownAt.ok {k:List D->O} {D:Ends} {H₀:Hp} (h:lj X G₀ H₀ D ((ownAt ρ i).out ρ k)):∃ ds,ρ[i]?=some (some (.own ds))/\lj X G₀ H₀ D (k ds):=by
 unfold ownAt at h
 split at h
 ·rename_i ds e;exact ⟨ds,e,h⟩
 ·exact h.elim
theorem pX (i:Nat) {ap cp:Pos} (he:QF X e ga) (hi:X.N[i]?=some x:=by rfl) (hv:Vis X.env.scope x:=by first|exact Or.inl rfl|exact Or.inr (Or.inl rfl))
 (hd:(x==("__debug__":Str))=false:=by decide) (hcd:(x==("__classdict__":Str))=false:=by decide) (hs1:starEach [e] X.env=(false,eval e X.env)::starEach [] X.env:=by rfl)
 (hbase:attributeBase (.Name x p) "append" X.env (eval (.Name x p) X.env)=eval (.Name x p) X.env:=by rfl)
 (hfew:((backTo cp (starEach [e] X.env)).all (fun x=>!x.1) && (backToKw cp (keywordEach [] X.env)).all (fun x=>x.1.isSome)
 && decide ([e].length+([]:List Keyword).length+(if ([]:List Keyword).isEmpty then 0 else 1)<30))=true:=by rfl)
 (hline:(ap.endLine==cp.line)=true:=by rfl)
 (hs:swapsWith (.Call (.Attribute (.Name x p) "append" ap) [e] [] cp) none pos.line X.env=pure false:=by rfl) :
  QSF X (.Expr (.Call (.Attribute (.Name x p) "append" ap) [e] [] cp) pos) (fun ρ=>(ownAt ρ i).out ρ fun ds=>(ga ρ).out ρ fun d=>if ds.length<sizeLine then .nx (ρ.set i (some (.own (ds++[d])))) else .no):=fun G₀ H₀ pins s σ H D I h=>by
 refine oQ (B1 PySem.F.plainAttrs_list PySem.F.slot_list_append PySem.F.type_list_append rH (gT hi hv hd hcd) (dh he jG hs1) hbase hfew hline hs1 rfl) hs pins s σ H D I ?_
 obtain ⟨G,ρ,sr,h⟩:=h
 try dsimp only at h
 obtain ⟨ds,e1,h⟩:=ownAt.ok h
 obtain ⟨l,vs,h1,h2,h3,h4,h5⟩:=sr.own i ds e1
 refine ⟨.ref l,h1,.inl ⟨rfl,vs,.of h2⟩,G,ρ,sr.e,?_⟩
 cases q:ga ρ with
 | ok d=>
  rw [q] at h
  simp only [R.out] at h
  intro v G' H' u r
  by_cases hz:ds.length<sizeLine
  ·rw [if_pos hz] at h
   refine ⟨l,vs,v,rfl,rfl,u.hh _ _ h2,by rw [h5.length];exact hz,h _ G' _ ?_⟩
   exact (sr.ups u).mut e1 h1 ((h5.mono u.gg).append (.cons r .nil))
  ·rw [if_neg hz] at h;exact h.elim
 | ex C=>rw [q] at h;exact Exx.of sr h
 | no=>rw [q] at h;exact h
def asL:D->R (List D)
 | .lst false xs=>.ok xs
 | _=>.no
theorem qE (i:Nat) {ap cp:Pos} (he:QF X e ga) (hi:X.N[i]?=some x:=by rfl) (hv:Vis X.env.scope x:=by first|exact Or.inl rfl|exact Or.inr (Or.inl rfl))
 (hd:(x==("__debug__":Str))=false:=by decide) (hcd:(x==("__classdict__":Str))=false:=by decide) (hs1:starEach [e] X.env=(false,eval e X.env)::starEach [] X.env:=by rfl)
 (hbase:attributeBase (.Name x p) "extend" X.env (eval (.Name x p) X.env)=eval (.Name x p) X.env:=by rfl)
 (hfew:((backTo cp (starEach [e] X.env)).all (fun x=>!x.1) && (backToKw cp (keywordEach [] X.env)).all (fun x=>x.1.isSome)
 && decide ([e].length+([]:List Keyword).length+(if ([]:List Keyword).isEmpty then 0 else 1)<30))=true:=by rfl)
 (hline:(ap.endLine==cp.line)=true:=by rfl)
 (hs:swapsWith (.Call (.Attribute (.Name x p) "extend" ap) [e] [] cp) none pos.line X.env=pure false:=by rfl) :
  QSF X (.Expr (.Call (.Attribute (.Name x p) "extend" ap) [e] [] cp) pos) (fun ρ=>(ownAt ρ i).out ρ fun ds=>(ga ρ).out ρ fun d=>(asL d).out ρ fun es=>if ds.length+es.length<=sizeLine then .nx (ρ.set i (some (.own (ds++es)))) else .no):=fun G₀ H₀ pins s σ H D I h=>by
 refine oQ (B1 PySem.F.plainAttrs_list PySem.F.slot_list_extend PySem.F.type_list_extend AF (gT hi hv hd hcd) (dh he jG hs1) hbase hfew hline hs1 rfl) hs pins s σ H D I ?_
 obtain ⟨G,ρ,sr,h⟩:=h
 try dsimp only at h
 obtain ⟨ds,e1,h⟩:=ownAt.ok h
 obtain ⟨l,vs,h1,h2,h3,h4,h5⟩:=sr.own i ds e1
 refine ⟨.ref l,h1,.inl ⟨rfl,vs,.of h2⟩,G,ρ,sr.e,?_⟩
 cases q:ga ρ with
 | ok d=>
  rw [q] at h
  simp only [R.out] at h
  intro v G' H' u r
  cases r with
  | lst hb t=>
   rename_i b ws es
   have h:lj X G₀ H₀ D (if ds.length+es.length<=sizeLine then .nx (ρ.set i (some (.own (ds++es)))) else .no):=h
   by_cases hz:ds.length+es.length<=sizeLine
   ·rw [if_pos hz] at h
    refine ⟨l,b,vs,ws,rfl,rfl,u.hh _ _ h2,u.sub _ _ hb,by rw [h5.length,t.length];exact hz,h _ G' _ ?_⟩
    exact (sr.ups u).mut e1 h1 ((h5.mono u.gg).append t)
   ·rw [if_neg hz] at h;exact h.elim
  | _=>exact h.elim
 | ex C=>rw [q] at h;exact Exx.of sr h
 | no=>rw [q] at h;exact h
noncomputable def cH (asg:D->Ev->R Ev) (g:Ev->O):List D->Ev->O
 | [],ρ=>.nx ρ
 | d::ds,ρ=>(asg d ρ).out ρ fun ρ1=>match g ρ1 with
  | .nx ρ2=>cH asg g ds ρ2
  | .ct ρ2=>cH asg g ds ρ2
  | .bk ρ2=>.nx ρ2
  | .rt d=>.rt d
  | .re d ρ2=>.re d ρ2
  | .ex C ρ2=>.ex C ρ2
  | .no=>.no
noncomputable def mix (H₀ G₁:Hp):Hp:=fun a=>match G₁ a with
 | some o=>some o
 | none=>H₀ a
theorem pQ {H₀ G₁:Hp} {a:Addr} (h:mix H₀ G₁ a=none):G₁ a=none/\H₀ a=none:=by
 unfold mix at h
 cases q:G₁ a with
 | none=>rw [q] at h;exact ⟨rfl,h⟩
 | some o=>rw [q] at h;cases h
section
variable {K:PySem.W.Frag} {G₀ H₀ G₁ H₁ G H:Hp} {σ:St} {ρ:Ev}
theorem StR.to (s:StR K G₀ H₀ G₁ H₁ σ ρ):StR K G₁ (mix H₀ G₁) G₁ H₁ σ ρ:=by
 refine ⟨s.e,fun a o e=>?_,⟨s.e.sub,.refl _,fun a o e=>?_,fun _ _ e=>.inl e⟩,fun i ds e=>?_,s.inj,?_⟩
 ·unfold mix;rw [e]
 ·unfold mix at e
  cases q:G₁ a with
  | none=>rw [q] at e;exact s.up.hh a o e
  | some o'=>rw [q] at e;cases e;exact s.e.sub a o q
 ·obtain ⟨l,vs,h1,h2,h3,h4,h5⟩:=s.own i ds e
  exact ⟨l,vs,h1,h2,h3,by unfold mix;rw [h3];exact h4,h5⟩
 ·obtain ⟨ow,o1,o2⟩:=s.ob
  exact ⟨ow,o1,fun i m C p fs e=>⟨(o2 i m C p fs e).1,(o2 i m C p fs e).2.keep ⟨fun a t o _ q=>q,.refl _,fun a t o _ _ n=>n,fun a t o q1 _=>q1,fun a o _ g n=>by unfold mix;rw [g];exact n⟩⟩⟩
theorem Up.back (u:Up G₀ H₀ G₁ H₁) (v:Up G₁ (mix H₀ G₁) G H):Up G₀ H₀ G H:=by
 refine ⟨v.sub,u.gg.trans v.gg,fun a o e=>?_,fun a o e=>?_⟩
 ·cases q:G₁ a with
  | none=>exact v.hh a o (by unfold mix;rw [q];exact e)
  | some o'=>
   have h1:=u.sub a o' q
   have h2:=u.hh a o e
   rw [h1] at h2
   cases h2
   exact v.hh a o (by unfold mix;rw [q])
 ·rcases v.fr a o e with h|h
  ·exact u.fr a o h
  ·exact .inr (pQ h).2
theorem StR.back (s0:Same G₀ H₀) (u:Up G₀ H₀ G₁ H₁) (s:StR K G₁ (mix H₀ G₁) G H σ ρ):StR K G₀ H₀ G H σ ρ:=
 ⟨s.e,s0,u.back s.up,fun i ds e=>let ⟨l,vs,h1,h2,h3,h4,h5⟩:=s.own i ds e;⟨l,vs,h1,h2,h3,(pQ h4).2,h5⟩,s.inj,by
 obtain ⟨ow,o1,o2⟩:=s.ob
 exact ⟨ow,o1,fun i m C p fs e=>⟨(o2 i m C p fs e).1,(o2 i m C p fs e).2.keep ⟨fun a t o _ q=>q,.refl _,fun a t o _ _ n=>n,fun a t o q1 _=>q1,fun a o _ _ n=>(pQ n).2⟩⟩⟩⟩
end
theorem yD (hp:PassesOwn (model X.prog X.w) X.A X.env X.xe) (hcalm:X.calm=true) (hi:QIF X tg iter gi) (hg:PGF X tg asg) (hb:B0 X body g)
 (hs:∀ x,foldedSetIterable iter X.env x=pure x:=by intro _;rfl) (hn:∀ d ρ C,asg d ρ ≠ .ex C:=by intro _ _ _ z;cases z):QSF X (.For tg iter body [] pos) (fun ρ=>(gi ρ).out ρ fun items=>cH asg g items ρ):=fun G₀ H₀ pins s σ H D I h=>by
 obtain ⟨G,ρ,sr,h⟩:=h
 try dsimp only at h
 cases q:gi ρ with
 | ok items=>
  rw [q] at h
  simp only [R.out] at h
  have key:∀ (J:It) (G1 H1:Hp),Up G H G1 H1->ItOk X.K G1 J items->∃ W:Nat->Nat->St->Hp->Prop,(∃ m,W 0 m σ H1)/\∀ i m σ H,W i m σ H->
    (J.stop i H/\D.nx σ H)\/(J.go i H/\∃ N:St->Hp->Prop,(∀ σ' H',N σ' H'->∃ m',m'<m/\W (i+1) m' σ' H')/\∀ x H',J.yld i H x H'->(fun v σ H Q=>∃ G₀ H₀ G ρ d ρ',StR X.K G₀ H₀ G H σ ρ/\Rep X.K G v d/\asg d ρ=.ok ρ'/\∀ σ',StR X.K G₀ H₀ G H σ' ρ'->Q σ' H) x σ H' fun σ2 H2=>(fun D σ H=>∃ G₀ H₀,tS X G₀ H₀ g D σ H) { D with nx:=N,ct:=N,bk:=D.nx } σ2 H2):=by
   intro J G1 H1 u1 iok
   have sr1:=sr.ups u1
   refine ⟨fun i m σ' H'=>m=items.length - i/\i<=items.length/\∃ G' ρ',StR X.K G1 (mix H₀ G1) G' H' σ' ρ'/\lj X G₀ H₀ D (cH asg g (items.drop i) ρ'),⟨items.length,by simp,Nat.zero_le _,G1,ρ,sr1.to,by simpa using h⟩,?_⟩
   rintro i m σ' H' ⟨rfl,hil,G',ρ',sr',h'⟩
   have hIt:=iok i G' H' sr'.up.gg sr'.e.sub
   by_cases hlt:i<items.length
   ·have hd:items.drop i=items[i]::items.drop (i+1):=List.drop_eq_getElem_cons hlt
    rw [hd] at h'
    obtain ⟨go,yl⟩:=hIt.1 items[i] (by simp [hlt])
    refine .inr ⟨go,fun σ2 H2=>i+1<=items.length/\∃ G2 ρ2,StR X.K G1 (mix H₀ G1) G2 H2 σ2 ρ2/\lj X G₀ H₀ D (cH asg g (items.drop (i+1)) ρ2),fun σ2 H2 q2=>⟨items.length - (i+1),by omega,rfl,q2⟩,fun x H2 y=>?_⟩
    obtain ⟨G2,up2,rep2⟩:=yl x H2 y
    unfold cH at h'
    cases q2:asg items[i] ρ' with
    | ok ρ1=>
     rw [q2] at h'
     simp only [R.out] at h'
     refine ⟨G1,mix H₀ G1,G2,ρ',items[i],ρ1,sr'.ups up2,rep2,q2,fun σ3 sr3=>⟨G1,mix H₀ G1,G2,ρ1,sr3,?_⟩⟩
     cases q3:g ρ1 with
     | nx ρ2=>rw [q3] at h';exact fun σ4 G4 H4 sr4=>⟨hlt,G4,ρ2,sr4,h'⟩
     | ct ρ2=>rw [q3] at h';exact fun σ4 G4 H4 sr4=>⟨hlt,G4,ρ2,sr4,h'⟩
     | bk ρ2=>rw [q3] at h';exact fun σ4 G4 H4 sr4=>h' σ4 G4 H4 (sr4.back sr.sub0 sr1.up)
     | rt d=>rw [q3] at h';exact fun v G4 H4 u4 r4=>h' v G4 H4 (sr1.up.back u4) r4
     | re d ρ2=>rw [q3] at h';exact fun v σ4 G4 H4 sr4 r4=>h' v σ4 G4 H4 (sr4.back sr.sub0 sr1.up) r4
     | ex C ρ2=>rw [q3] at h';exact fun e s' f4=>h' e s' (f4.map fun σ4 G4 H4 sr4=>sr4.back sr.sub0 sr1.up)
     | no=>rw [q3] at h';exact h'
    | ex C=>exact absurd q2 (hn _ _ C)
    | no=>rw [q2] at h';exact h'.elim
   ·have hie:i=items.length:=by omega
    subst hie
    rw [List.drop_length] at h'
    exact .inl ⟨hIt.2 (Nat.le_refl _),h' σ' G' H' (sr'.back sr.sub0 sr1.up)⟩
  have hb':PSs X body (fun D σ H=>∃ G₀ H₀,tS X G₀ H₀ g D σ H):=fun pins s σ H D I ⟨G₀,H₀,q⟩=>hb G₀ H₀ pins s σ H D I q
  refine DN hp hcalm hi hg hb' hs pins s σ H D I ⟨G,ρ,sr.e,?_⟩
  rw [q]
  exact fun J G1 H1 u1 iok=>key J G1 H1 u1 iok
 | ex C=>
  rw [q] at h
  have hb':PSs X body (fun D σ H=>∃ G₀ H₀,tS X G₀ H₀ g D σ H):=fun pins s σ H D I ⟨G₀,H₀,q⟩=>hb G₀ H₀ pins s σ H D I q
  refine DN hp hcalm hi hg hb' hs pins s σ H D I ⟨G,ρ,sr.e,?_⟩
  rw [q]
  exact Exx.of sr h
 | no=>rw [q] at h;exact h.elim
end
noncomputable def spF (K:PySem.W.Frag) (f:List D->R D):Sp:=fun vs H Q E=>∃ G ds,Same G H/\Reps K G vs ds/\(f ds).post (Fin G H (Rep K) Q) (fun C=>∀ G' H',Up G H G' H'->E (.ref C) none H')
noncomputable abbrev FnF (P:Program) (w:World) (K:PySem.W.Frag) (mg:Str->Option Value) (base:Heap) (k:Nat) (f:Addr) (fd:FuncData) (ps:List Str) (g:List D->R D):Prop:=FnOk P w K mg base (CXo P w) k f fd ps (fun vs H Q E=>vs.length=ps.length/\spF K g vs H Q E)
section
variable {X:Cx} {k:Nat} {f:Addr} {fd:FuncData} {ps:List Str} {x:Str} {p pos:Pos} {e:Expr} {es:List Expr} {gl:Ev->R (List D)} {g:List D->R D}
theorem zH (F:FnF X.prog X.w X.K X.mg X.base k f fd ps g) (hr:Room k X.A) (hg:Gl X x) (hm:X.mg x=some (.ref f)) (hk:PySem.W.keepIn X.K (.ref f)=true) (hb:Binds X.K fd ps []) (ha:QFA X (e::es) gl)
 (hdb:(x==("__debug__":Str))=false:=by decide) (he:starEach (e::es) X.env=(false,eval e X.env)::starEach es X.env:=by rfl) (hpl:(backTo pos (starEach es X.env)).any (·.1)=false:=by rfl) :
  QF X (.Call (.Name x p) (e::es) [] pos) (fun ρ=>gl ρ>>=fun ds=>if ds.length=ps.length then g ds else .no):=by
 intro pins s σ H Q I h
 obtain ⟨G,ρ,st,h⟩:=h
 have t:tAF X gl σ H (fun vs H1=>∃ G1 ds,Up G H G1 H1/\Same G1 H1/\Reps X.K G1 vs ds/\ds.length=ps.length/\(g ds).post (Fin G1 H1 (Rep X.K) Q) (Exx X σ G1 H1)):=by
  refine tG.intro st h fun ds vs G1 H1 u1 st1 r1 h1=>?_
  by_cases hl:ds.length=ps.length
  ·rw [if_pos hl] at h1;exact ⟨G1,ds,u1,st1.sub,r1,hl,h1⟩
  ·rw [if_neg hl] at h1;exact h1.elim
 refine wpAny_Call_Name_kw (rj I hg hm ?_ hdb)
 refine PySem.W.callWith_K (h₀:=X.base) I.ok.mod.kin hk (thn (ha pos pins s σ H _ I t) fun us s1 q=>⟨?_,?_⟩) he hpl
 ·obtain ⟨vs,H1,I1,r,_⟩:=q;exact I1.kIn
 obtain ⟨vs,H1,I1,r,G1,ds,u1,sub1,rp,hl,h1⟩:=q
 have hvl:vs.length=ps.length:=by rw [rp.length];exact hl
 have hul:(us++[]).length=ps.length:=by rw [List.append_nil,<- r.length];exact hvl
 have hbb:=hb s1 us I1.kIn hul
 rw [List.append_nil] at hbb
 refine wpAny_call (codeAny_mono (F.run X.A X.stack s1 H1 ⟨us,[]⟩ us vs Q (fun c _ H'=>∃ C G',c=.ref C/\Up G1 H1 G' H'/\Exx X σ G1 H1 C) hr I1.env0 hbb r ⟨hvl,G1,ds,sub1,rp,h1.mono (fun _ q=>q) fun C q G' H' u=>⟨C,G',rfl,u,q⟩⟩) fun r' s' hq=>?_)
 cases r' with
 | error e'=>
  obtain ⟨a,C,H',rfl,fl,C',G',ec,u,q⟩:=hq
  cases ec
  exact q _ _ ⟨G1,H1,.refl sub1,pins,s1,a,rfl,I1,.inr (.inl ⟨G',H',fl,u⟩)⟩
 | ok fl=>
  cases fl with
  | ret u=>exact I1.after hq
  | _=>exact False.elim hq
end
theorem ObjOk.there {w:World} {o:HO} (x:ObjOk P w H h a o):∃ ob,h.get? a=some ob:=by
 cases o with
 | lst xs=>obtain ⟨_,_,_,_,e⟩:=x;exact ⟨_,e⟩
 | tup xs=>obtain ⟨_,_,_,o,e,_⟩:=x;exact ⟨_,e⟩
 | dK kvs=>obtain ⟨_,_,_,_,o,_,_,e,_⟩:=x;exact ⟨_,e⟩
 | dT kvs=>obtain ⟨_,_,_,_,o,_,_,e,_⟩:=x;exact ⟨_,e⟩
 | set S n=>obtain ⟨o,_,_,_,e,_⟩:=x;exact ⟨_,e⟩
 | ins C dx fs=>obtain ⟨_,_,_,e,_⟩:=x;exact ⟨_,e⟩
 | own y=>obtain ⟨_,e⟩:=x;exact ⟨_,e⟩
 | xd fs=>obtain ⟨_,⟨_,_,_,e,_⟩,_⟩:=x;exact ⟨_,e⟩
 | rng lo hi=>obtain ⟨_,_,_,e⟩:=x;exact ⟨_,e⟩
 | frz ob u=>obtain ⟨e,_⟩:=x;exact ⟨_,e⟩
 | tbl ps=>obtain ⟨_,e,_⟩:=x;exact ⟨_,e⟩
 | met f y=>exact ⟨_,show h.get? a=some _ from x⟩
 | ext φ=>obtain ⟨_,⟨_,e⟩,_⟩:=x;exact ⟨_,e⟩
theorem BT {env:Env} {outer:List Env} {L:Addr} (h:env.frame=some L):frs (env::outer)=L::frs outer:=by
 unfold frs
 rw [List.filterMap_cons,h]
section
variable {P:Program} {w:World} {H H':Hp} {h h1 h2 hm:Heap} {l l':List Addr} {B:Heap}
theorem HOk.flight (x:HOk P w H' h1) (hb:B.StaysIn h2) (hk:∀ b o,b ∉ l->((∃ o0,hm.get? b=some o0)\/∃ u,H' b=some u)->h1.get? b=some o->B.get? b=some o) (hl:∀ b∈l,H' b=none):HOk P w H' h2:=fun a o e=>by
 refine (x a o e).stay (fun b u hbb q=>hb b u (hk b u (fun z=>?_) (.inr ?_) q)) (fun _ z=>z) (fun _ _ z=>z)
 ·rcases hbb with rfl|hbb
  ·rw [hl _ z] at e;cases e
  ·rw [hl _ z] at hbb;cases hbb
 ·rcases hbb with rfl|hbb
  ·exact ⟨_,e⟩
  ·exact ⟨_,hbb⟩
theorem Un.flight {ex:List Addr} (u:Un l' ex H H' h h1) (hb:B.StaysIn h2) (sm:h1.UpToSlots h2) (hk:∀ b o,b ∉ l->((∃ o0,hm.get? b=some o0)\/∃ u,H' b=some u)->h1.get? b=some o->B.get? b=some o) (lt:∀ b o,h.get? b=some o->∃ o0,hm.get? b=some o0)
 (hl:∀ b∈l,b∈l'\/h.objs.size<=b) (hd:∀ b∈l,∀ o,h1.get? b=some o->∀ vs,o.data ≠ .fields vs):Un l' ex H H' h h2:=by
 refine ⟨fun b o e nn hb' hx=>?_,fun b o e nn hb' hx=>?_,u.free,fun b o e hx=>?_,u.tups,u.frzs,u.tbls⟩
 ·have q:=u.keep b o e nn hb' hx
  refine hb b o (hk b o (fun z=>?_) (.inl (lt b o e)) q)
  rcases hl b z with z|z
  ·exact hb' z
  ·exact absurd (Heap.lt_size e) (Nat.not_lt.mpr z)
 ·obtain ⟨sl,q⟩:=u.slot b o e nn hb' hx
  by_cases z:b∈l
  ·obtain ⟨sl',q'⟩:=sm b _ q (hd b z _ q)
   exact ⟨sl',q'⟩
  ·exact ⟨sl,hb b _ (hk b _ z (.inl (lt b o e)) q)⟩
 ·obtain ⟨o',q⟩:=u.there b o e hx
  by_cases z:b∈l
  ·obtain ⟨sl',q'⟩:=sm b _ q (hd b z _ q)
   exact ⟨_,q'⟩
  ·exact ⟨o',hb b _ (hk b _ z (.inl (lt b o e)) q)⟩
end
theorem FunFrames.data {base:Heap}:∀ {l:List Env},h.FunFrames base l->∀ b∈frs l,∃ o,h.get? b=some o/\(∀ vs,o.data ≠ .fields vs)/\base.get? b=none:=fun {l} hf b hb=>by
 obtain ⟨h1,o,h2,h3⟩:=hf.mem hb
 exact ⟨o,h2,h3,h1⟩
noncomputable def gCx (P:Program) (w:World) (K:PySem.W.Frag) (mg:Str->Option Value) (base:Heap) (N:List Str) (env:Env) (fn:Str->Bool) (A:Around) (outer:List Env) (s:Shared) (H:Hp) (E:XK):Cx where
 prog:=P
 w:=w
 K:=K
 mg:=mg
 base:=base
 A:=A.deeper env
 N:=N
 s₀:=s
 H₀:=H
 env:=env
 outer:=outer
 stack:=env::outer
 ex:=[]
 calm:=true
 fn:=fn
 pn:=[]
 xe:=fun e s'=>wpAny (model P w) (A.deeper env) (leaving env e) (fun _ s''=>CXo P w outer H s E e s'') (fun e' s''=>CXo P w outer H s E e' s'') s'
theorem Fw {w : World} {K : PySem.W.Frag} {mg : Str -> Option Value} {base : Heap} {N : List Str} {env : Env} {fn : Str -> Bool} {A : Around} {outer : List Env} {E : XK} {e : Value}
 (hloc : env.locals = s.heap.objs.size) (hf : env.frame = some s.heap.objs.size) (fl : FlyS (gCx P w K mg base N env fn A outer s H E) G H ρ C e s') (hE : ∀ G' H', Up G H G' H' -> E (.ref C) none H') : (gCx P w K mg base N env fn A outer s H E).xe e s' := by
  obtain ⟨σ, H₁, pins, s₁, a, rfl, I, way⟩ := fl
  have hfr : (A.deeper (env)).frames = some (env :: outer) := I.ok.frames
  have hst : frs (env :: outer) = s.heap.objs.size :: frs outer := BT hf
  have old : ∀ b o, s.heap.get? b = some o -> ∃ o0, s₁.heap.get? b = some o0 := fun b o e => I.base.there b o e (by show b ∉ ([] : List Addr); simp)
  show wpAny (model P w) (A.deeper (env)) (leaving (env) (.ref a)) (fun _ s'' => CXo P w outer H s E (.ref a) s'') (fun e' s'' => CXo P w outer H s E e' s'') s'
  -- the end, from the heap behind
  have fin : ∀ {H' : Hp} {G' : Hp} {s' : Shared} {h'' B : Heap} {a0 : Value}, Inv (gCx P w K mg base N env fn A outer s H E) pins σ H' s' -> StR K G H G' H' σ ρ -> H' a = none -> Heap.FlyingW B outer a (.ref C) a0 h'' -> s'.heap.UpToSlots h'' ->
      (∀ b o, b ∉ s.heap.objs.size :: frs outer -> ((∃ o0, s₁.heap.get? b = some o0) \/ ∃ u, H' b = some u) -> s'.heap.get? b = some o -> B.get? b = some o) -> CXo P w outer H s E (.ref a) { s' with heap := h'' } := by
    intro H' G' s' h'' B a0 J up ha fl sm hk
    have J0 : H' s.heap.objs.size = none := by have q : H' env.locals = none := J.free; rw [hloc] at q; exact q
    have fr0 : ∀ b ∈ frs outer, H' b = none := fun b hb => J.stkFree b (by show b ∈ frs (env :: outer); rw [hst]; exact List.mem_cons_of_mem _ hb)
    have frA : ∀ b ∈ s.heap.objs.size :: frs outer, H' b = none := fun b hb => by
      rcases List.mem_cons.mp hb with rfl | hb
      · exact J0
      · exact fr0 b hb
    have dat : ∀ b ∈ s.heap.objs.size :: frs outer, ∀ o, s'.heap.get? b = some o -> ∀ vs, o.data ≠ .fields vs := fun b hb o e => by
      obtain ⟨o', e', d', _⟩ := FunFrames.data J.stack b (by show b ∈ frs (env :: outer); rw [hst]; exact hb)
      rw [e] at e'; cases e'; exact d'
    have hok : HOk P w H' h'' := J.hok.flight fl.1 hk frA
    have un : Un (frs outer) [] H H' s.heap h'' := Un.flight J.base fl.1 sm hk old (fun b hb => (List.mem_cons.mp hb).elim (fun z => .inr (by rw [z]; exact Nat.le_refl _)) .inl) dat
    refine ⟨a, C, H', rfl, ⟨J.os, J.bare, un, hok, ha, B, a0, fl, fun b o hb ho e => ?_⟩, hE G' H' up.up⟩
    have nb : b ∉ s.heap.objs.size :: frs outer := fun z => by
      rcases List.mem_cons.mp z with z | z
      · rcases ho with ⟨o0, ho⟩ | ⟨u, ho⟩
        · rw [z] at ho; exact Nat.lt_irrefl _ (Heap.lt_size ho)
        · rw [z, J0] at ho; cases ho
      · exact hb z
    have ho' : (∃ o0, s₁.heap.get? b = some o0) \/ ∃ u, H' b = some u := ho.imp (fun ⟨o0, z⟩ => old b o0 z) id
    have ex : ∃ o', s'.heap.get? b = some o' := by
      rcases ho with ⟨o0, ho⟩ | ⟨u, ho⟩
      · exact J.base.there b o0 ho (by show b ∉ ([] : List Addr); simp)
      · exact (J.hok b u ho).there
    obtain ⟨o', e'⟩ := ex
    have q := hk b o' nb ho' e'
    have q2 := fl.1 b o' q
    have e2 : h''.get? b = some o := e
    rw [q2] at e2
    cases e2
    exact q
  rcases way with ⟨G₁, h', vs, sr, made, rfl⟩ | ⟨G', H', ⟨os, bare, un, hok, ha, B, a0, fl, hk⟩, up⟩ | ⟨G', H', L', hL, ⟨os, bare, ⟨ch, hch, un⟩, hok, ha, _, B, a0, fl, hk⟩, up⟩
  · -- made here
    have J : Inv (gCx P w K mg base N env fn A outer s H E) pins σ H₁ { s₁ with heap := h' } := I.kept (t' := s₁.toks) made.keeps
    have hin : ∀ en ∈ (env :: outer), ∀ b, en.frame = some b -> b ∈ s.heap.objs.size :: frs outer := fun en he b hb => by
      rw [<- hst]; exact List.mem_filterMap.mpr ⟨en, he, hb⟩
    refine wpAny_leaves_madeW (base := PySem.W.hideAll s₁.heap (s.heap.objs.size :: frs outer)) hfr hf (fun b o q => PySem.W.of_hideAll _ q) (PySem.W.funFrames_hide I.stack hin) made fun h'' t fl' _ _ sm => ?_
    have ha : H₁ a = none := by
      cases q : H₁ a with
      | none => rfl
      | some u =>
        obtain ⟨ob, e⟩ := (I.hok a u q).there
        rw [made.new] at e; cases e
    refine fin J sr ha fl' sm fun b o hb ho e => ?_
    have e1 : s₁.heap.get? b = some o := by
      rcases ho with ⟨o0, ho⟩ | ⟨u, ho⟩
      · have q := made.keeps b o0 ho
        have e' : h'.get? b = some o := e
        rw [q] at e'; cases e'; exact ho
      · obtain ⟨ob, ho⟩ := (I.hok b u ho).there
        have q := made.keeps b ob ho
        have e' : h'.get? b = some o := e
        rw [q] at e'; cases e'; exact ho
    exact PySem.W.hideAll_get _ e1 hb
  · have J := I.call' (s' := s') (ch := []) os un hok bare (fun b z => absurd z (by simp))
    exact wpAny_leaves_onW hfr hf fl fun h'' fl' sm => fin J up ha fl' sm fun b o hb ho e => hk b o (by show b ∉ frs (env :: outer); rw [hst]; exact hb) ho e
  · have J := I.call' (s' := s') (ch := ch) os un hok bare hch
    have eL : s.heap.objs.size = L' := Option.some.inj (hf.symm.trans hL)
    rw [<- eL] at fl
    refine wpAny_bind (wpAny_noteFrame_againW hf fl.2.2.2 (wpAny_landsW fl fun h'' fl' sm => ?_))
    obtain ⟨k1, k2, ⟨_, _, k3⟩, k4⟩ := fl'
    exact fin J up ha ⟨k1, k2, k3, k4⟩ sm fun b o hb ho e => hk b o (by show b ∉ frs (env :: outer); rw [hst]; exact hb) ho e

theorem qI {w:World} {K:PySem.W.Frag} {mg:Str->Option Value} {base:Heap} {N:List Str} {cd:Value} {A:Around} {outer:List Env} {E:XK} {e:Value}
 (fl:FlyS (lC (CXo P w) P w K mg base N qual scope f cd A outer s H E) G H ρ C e s') (hE:∀ G' H',Up G H G' H'->E (.ref C) none H'):(lC (CXo P w) P w K mg base N qual scope f cd A outer s H E).xe e s':=
 Fw (env:=envOfC qual scope s.heap.objs.size f cd) (fn:=fun _=>true) rfl rfl fl hE
noncomputable def ar (n:Nat) (ds:List D):Ev:=ds.map (fun d=>some (.val d))++List.replicate (n - ds.length) none
noncomputable def aq (o:O):R D:=match o with
 | .rt d=>.ok d
 | .re d _=>.ok d
 | .nx _=>.ok .non
 | .ex C _=>.ex C
 | _=>.no
theorem xC {K:PySem.W.Frag} {N:List Str} (sub:Same G H) (r:Reps K G vs ds):StR K G H G H (jf N vs) (ar N.length ds):=by
 have hl:=r.length
 have get:∀ (i:Nat) x,(ar N.length ds)[i]?=some (some x)->∃ d,ds[i]?=some d/\x=.val d:=fun i x e=>by
  unfold ar at e
  by_cases hi:i<ds.length
  ·rw [List.getElem?_append_left (by simpa using hi),List.getElem?_map] at e
   cases q:ds[i]? with
   | none=>rw [q] at e;cases e
   | some d=>rw [q] at e;cases e;exact ⟨d,rfl,rfl⟩
  ·rw [List.getElem?_append_right (by simpa using hi),List.getElem?_replicate] at e
   split at e <;> cases e
 have no:NoOwn (ar N.length ds):=fun i x e=>by obtain ⟨d',_,q⟩:=get i _ e;exact ⟨d',q⟩
 refine ⟨⟨sub,by simp [jf,ar,hl],fun i d e=>?_,fun i m C p fs e=>absurd e (no.obj i m C p fs)⟩,sub,.refl sub,fun i es e=>?_,fun i j es fs l e=>?_,no.ob⟩
 ·obtain ⟨d',e',q⟩:=get i _ e
  cases q
  obtain ⟨v,ev,rv⟩:=r.get e'
  refine ⟨v,?_,rv⟩
  unfold jf
  rw [List.getElem?_append_left (by have:=(List.getElem?_eq_some_iff.mp ev).1;simpa using this),List.getElem?_map,ev]
  rfl
 ·obtain ⟨d',_,q⟩:=get i _ e;cases q
 ·obtain ⟨d',_,q⟩:=get i _ e;cases q
theorem pb:fillsNumberSlot (.type "tuple") "mul"=pure false:=
 PySem.fillsNumberSlot_seq (id:="tuple.__mul__") (r:=some (.builtin "tuple.__rmul__")) F.slot_tuple_mul.lookup (by decide +kernel) F.slot_tuple_rmul.lookup (by decide +kernel)
theorem Gz:seqRepeat? (.type "tuple")=pure (some (.builtin "tuple.__mul__")):=by
 unfold seqRepeat?
 rw [PySem.seqSlot_of (T:="tuple") (name:="__mul__") (id:="tuple.__mul__") F.slot_tuple_mul.lookup (by decide +kernel),PySem.seqSlot_of (T:="tuple") (name:="__rmul__") (id:="tuple.__rmul__") F.slot_tuple_rmul.lookup (by decide +kernel)]
 rfl
open Builtin in
theorem rG (a:Int) (t:Tok) (l:Addr) (items:Array Value) (n:Nat) (dd:Option Addr) (sl:Array (Option Value)) :
  Meets (Builtin.«int.__rmul__» ⟨[.int a t,.ref l],[]⟩) (fun _ Rr s=>s.heap.get? l=some { cls:=.type "tuple",dict:=dd,data:=.seq items n,slots:=sl }/\Rr (.ok (.ret Value.notImplemented)) s):=
 .of_wp fun prog w A Rr s h=>by obtain ⟨hp,g,d,tk,os⟩:=s;obtain ⟨hl,h⟩:=h;wp_walk;exact ⟨_,rfl,h⟩
section
open Builtin AutoSeq1
variable (l:Addr) (items:Array Value) (n:Nat) (dd:Option Addr) (sl:Array (Option Value)) (x:Int) (u:Tok) (h1:(decide (x < -(2 ^ 63)) || decide (x ≥ 2 ^ 63))=false)
include h1
theorem CG (hc:(items.isEmpty || x==1)=true) :
  Meets (Builtin.«tuple.__mul__» ⟨[.ref l,.int x u],[]⟩) (fun _ Rr s=>s.heap.get? l=some { cls:=.type "tuple",dict:=dd,data:=.seq items n,slots:=sl }/\Rr (.ok (.ret (.ref l))) s):=
 .of_wp fun prog w A Rr s h=>by
  obtain ⟨hp,g,d,tk,os⟩:=s;obtain ⟨hl,h⟩:=h
  have f1:=idx_int
  wp_walk
  refine wpAny_ite_false (by rw [h1];rfl) ?_
  refine wpAny_bind (tupleItemsOf_ (show IsTup hp l items from ⟨_,hl,rfl,n,rfl⟩) ?_)
  dsimp only
  rw [if_pos hc]
  unfold Tuple.tupleIsExact
  refine wpAny_bind (wpAny_bind (wpAny_typeOf ⟨_,hl,rfl⟩ (wpAny_pure ?_)))
  rw [if_pos (by decide)]
  exact wpAny_bind (wpAny_rule (wpAny_pure ⟨_,rfl,h⟩))
theorem CO (hc : ¬ (items.isEmpty || x==1)=true) (h2:(decide (x<=0) || items.isEmpty)=true) :
  Meets (Builtin.«tuple.__mul__» ⟨[.ref l,.int x u],[]⟩) (fun _ Rr s=>s.heap.get? l=some { cls:=.type "tuple",dict:=dd,data:=.seq items n,slots:=sl }/\Rr (.ok (.ret (.ref s.heap.objs.size))) { s with heap:=s.heap.push { cls:=.type "tuple",data:=.seq #[] } }):=
 .of_wp fun prog w A Rr s h=>by
  obtain ⟨hp,g,d,tk,os⟩:=s;obtain ⟨hl,h⟩:=h
  have f1:=idx_int
  wp_walk
  refine wpAny_ite_false (by rw [h1];rfl) ?_
  refine wpAny_bind (tupleItemsOf_ (show IsTup hp l items from ⟨_,hl,rfl,n,rfl⟩) ?_)
  dsimp only
  rw [if_neg hc,if_pos h2]
  exact wpAny_bind (m:=Builtin.Tuple.tupleExact _) (wpAny_newObj_type (wpAny_pure ⟨_,rfl,h⟩) (Nat.zero_le _))
theorem B8 (hc : ¬ (items.isEmpty || x==1)=true) (h2 : ¬ (decide (x<=0) || items.isEmpty)=true) (hz:items.size * x.toNat<=sizeLine) :
  Meets (Builtin.«tuple.__mul__» ⟨[.ref l,.int x u],[]⟩) (fun _ Rr s=>s.heap.get? l=some { cls:=.type "tuple",dict:=dd,data:=.seq items n,slots:=sl }/\
   Rr (.ok (.ret (.ref s.heap.objs.size))) { s with heap:=s.heap.push { cls:=.type "tuple",data:=.seq (List.foldl (fun x1 x2=>x1++x2) #[] (List.replicate x.toNat items)) } }):=
 .of_wp fun prog w A Rr s h=>by
  obtain ⟨hp,g,d,tk,os⟩:=s;obtain ⟨hl,h⟩:=h
  have f1:=idx_int
  have hx:0<x:=by
   cases q:decide (x<=0) with
   | true=>rw [q] at h2;exact absurd rfl h2
   | false=>exact Int.not_le.mp (of_decide_eq_false q)
  have ez:(items.size:Int) * x=((items.size * x.toNat:Nat):Int):=by
   rw [Int.natCast_mul,Int.toNat_of_nonneg (Int.le_of_lt hx)]
  have hlim:(sizeLine:Nat)<=(2 ^ 63 - 1) / 8:=by decide
  have h3 : ¬ ((items.size:Int) * x > (2 ^ 63 - 1) / 8):=by
   rw [ez]
   have:((sizeLine:Nat):Int)<=(2 ^ 63 - 1) / 8:=by decide
   omega
  have h4 : ¬ (Tuple.tupleTooMany ((items.size:Int) * x)=true):=by
   unfold Tuple.tupleTooMany
   rw [ez]
   intro q
   have:=of_decide_eq_true q
   omega
  have hfz:(List.foldl (fun x1 x2=>x1++x2) #[] (List.replicate x.toNat items)).size<=sizeLine:=by
   have e:=jS items.toList x.toNat []
   simp only [List.nil_append,Array.toArray_toList] at e
   rw [e,List.size_toArray,qf,Array.length_toList,Nat.mul_comm]
   exact hz
  wp_walk
  refine wpAny_ite_false (by rw [h1];rfl) ?_
  refine wpAny_bind (tupleItemsOf_ (show IsTup hp l items from ⟨_,hl,rfl,n,rfl⟩) ?_)
  dsimp only
  rw [if_neg hc,if_neg h2,if_neg h3,if_neg h4]
  exact wpAny_bind (m:=Builtin.Tuple.tupleExact _) (wpAny_newObj_type (wpAny_pure ⟨_,rfl,h⟩) hfz)
end
section
variable {X:Cx}
noncomputable def Jh (K:PySem.W.Frag):R2:=fun x y H Q=>∃ l k xs,x=.ref l/\y=.int k/\SqT K H l xs/\-(2 ^ 63)<=k/\k<2 ^ 63/\xs.length * k.toNat<=sizeLine/\
 (xs=[]\/k=1->Q (.ref l) H)/\(xs≠[]->k≠1->∀ p,H p=none->Q (.ref p) (upd H p (.tup (List.replicate k.toNat xs).flatten)))
theorem op_repT:OpR X (binaryOp .Mult) (Jh X.K):=by
 intro pins s σ H x y v u Q I rx ry h
 obtain ⟨l,k,xs,rfl,rfl,hH,h1,h2,hz,q0,q1⟩:=h
 cases rx
 obtain ⟨t,rfl⟩:=ry
 obtain ⟨its,r,p,hzz⟩:=I.tuple hH
 obtain ⟨⟨cls,dd,data,sl⟩,ho,hc,n,hd⟩:=id p
 simp only at hc hd
 subst hc hd
 have hlen:its.length=xs.length:=r.length.symm
 have hin:(decide (k < -(2 ^ 63)) || decide (k ≥ 2 ^ 63))=false:=by
  rw [decide_eq_false (by omega),decide_eq_false (by omega)];rfl
 have emp:its.toArray.isEmpty=decide (xs=[]):=by
  cases its with
  | nil=>cases r;rfl
  | cons a b=>cases r;rfl
 refine wpAny_binaryOp_repeat_ref (T:="tuple") (U:="int") (by decide) ⟨_,ho,rfl⟩ (fun s'=>typeIs_int s' k t) pb F.fills_int_mul F.slot_int_rmul Gz F.slot_int_index.lookup
  (call_meets F.slot_int_rmul (typeIs_int s k t) F.entry_int_rmul (F.args_int_rmul_2 _ _) (rG k t l its.toArray n dd sl) ⟨ho,rfl,⟨_,ho,rfl⟩,?_⟩)
 by_cases hc:(its.toArray.isEmpty || k==1)=true
 ·refine call_meets F.slot_tuple_mul ⟨_,ho,rfl⟩ F.entry_tuple_mul (F.args_tuple_mul_2 _ _) (CG l its.toArray n dd sl k t hin hc) ⟨ho,.ref l,H,I,rfl,q0 ?_⟩
  rw [emp] at hc
  simpa using hc
 ·have hne:xs≠[]/\k≠1:=by
   rw [emp] at hc
   simpa using hc
  have fin:∀ its',its'=(List.replicate k.toNat its).flatten->EP X pins σ Q (.ref s.heap.objs.size) { s with heap:=s.heap.push { cls:=.type "tuple",data:=.seq its'.toArray } }:=fun its' e=>by
   subst e
   refine ⟨.ref s.heap.objs.size,_,I.laid (t':=s.toks) (o:=.tup (List.replicate k.toNat xs).flatten) (fun b ob q=>Heap.get?_push_of_some _ q) (Nat.le_refl _) ?_,rfl,q1 hne.1 hne.2 _ I.fresh⟩
   exact ⟨by rw [qf,Nat.mul_comm];exact hz,_,r.rep k.toNat,IsTup.new _ _⟩
  by_cases h0:(decide (k<=0) || its.toArray.isEmpty)=true
  ·refine call_meets F.slot_tuple_mul ⟨_,ho,rfl⟩ F.entry_tuple_mul (F.args_tuple_mul_2 _ _) (CO l its.toArray n dd sl k t hin hc h0) ⟨ho,?_⟩
   refine fin [] ?_
   have:k<=0:=by
    rw [emp,decide_eq_false hne.1,Bool.or_false] at h0
    exact of_decide_eq_true h0
   rw [Int.toNat_of_nonpos this]
   rfl
  ·refine call_meets F.slot_tuple_mul ⟨_,ho,rfl⟩ F.entry_tuple_mul (F.args_tuple_mul_2 _ _) (B8 l its.toArray n dd sl k t hin hc h0 (by rw [List.size_toArray,hlen];exact hz)) ⟨ho,?_⟩
   have e:=jS its k.toNat []
   simp only [List.nil_append] at e
   rw [e]
   exact fin _ rfl
theorem E7 (x:Str) (n:Int):(Txt.mul x n).cps.toList=(List.replicate n.toNat x.cps.toList).flatten:=by
 unfold Txt.mul
 by_cases h1:n<1
 ·rw [if_pos h1,Int.toNat_of_nonpos (by omega)];rfl
 ·rw [if_neg h1]
  by_cases h2:(n==1 || x.length==0)=true
  ·rw [if_pos h2]
   rcases Bool.or_eq_true_iff.mp h2 with h|h
   ·have:n=1:=by simpa using h
    subst this
    show _=(List.replicate 1 x.cps.toList).flatten
    simp
   ·have:x.cps.toList=[]:=List.eq_nil_of_length_eq_zero (by rw [Str.len_list];simpa using h)
    rw [this];simp
  ·rw [if_neg h2]
   have:∀ (m:Nat) (acc:Array Nat),((List.replicate m x.cps).foldl (·++·) acc).toList=acc.toList++(List.replicate m x.cps.toList).flatten:=by
    intro m
    induction m with
    | zero=>intro acc;simp
    | succ m ih=>intro acc;rw [List.replicate_succ,List.foldl_cons,ih,List.replicate_succ,List.flatten_cons];simp
   simpa using this n.toNat #[]
theorem op_mul_str:OpR X (binaryOp .Mult) (fun x y H Q=>∃ (i:Str) (k:Int),x=.str i/\y=.int k/\-(2 ^ 63)<=k/\k<2 ^ 63/\i.length * k.toNat<=sizeLine/\Q (.str (Txt.mul i k)) H):=by
 intro pins s σ H x y v u Q I rx ry h
 obtain ⟨i,k,rfl,rfl,h1,h2,hz,q⟩:=h
 obtain ⟨t,rfl⟩:=rx
 obtain ⟨t',rfl⟩:=ry
 refine SB.mul ⟨by rw [decide_eq_false (by omega),decide_eq_false (by omega)];rfl,fun h3 h4=>?_,fun h3 h4=>?_⟩ fun t'' n=>⟨.str _,H,I.tok _,⟨_,rfl⟩,q⟩
 ·have hk:0<k:=by omega
  intro h5
  have h6:(2 ^ 63 - 1) / k * k<=2 ^ 63 - 1:=Int.ediv_mul_le _ (by omega)
  have h7:(((i.length * k.toNat:Nat)):Int)=(i.length:Int) * k:=by rw [Int.natCast_mul,Int.toNat_of_nonneg (by omega)]
  have h8:((2 ^ 63 - 1) / k+1) * k<=(i.length:Int) * k:=Int.mul_le_mul_of_nonneg_right (by omega) (by omega)
  have h9:2 ^ 63 - 1<((2 ^ 63 - 1) / k+1) * k:=Int.lt_ediv_add_one_mul_self _ hk
  have h10:((sizeLine:Nat):Int)<2 ^ 63 - 1:=by decide
  omega
 ·unfold Builtin.Str.tooLong
  exact decide_eq_false (by omega)
noncomputable def fH:D->D->Option D
 | .int i,.int j=>if (-(2 ^ 64)<i/\i<2 ^ 64)\/(-(2 ^ 64)<j/\j<2 ^ 64) then some (.int (i * j)) else none
 | .str x,.int k=>if -(2 ^ 63)<=k/\k<2 ^ 63/\x.length * k.toNat<=sizeLine then some (.str (List.replicate k.toNat x).flatten) else none
 | .tup xs,.int k=>if -(2 ^ 63)<=k/\k<2 ^ 63/\xs.length * k.toNat<=sizeLine then some (.tup (List.replicate k.toNat xs).flatten) else none
 | .lst false xs,.int k=>if -(2 ^ 63)<=k/\k<2 ^ 63/\xs.length * k.toNat<=sizeLine then some (.lst false (List.replicate k.toNat xs).flatten) else none
 | _,_=>none
noncomputable def HP (K:PySem.W.Frag):R2:=fun x y H Q=>rI CMul (fun i j=>.int (i * j)) x y H Q\/(∃ (i:Str) (k:Int),x=.str i/\y=.int k/\-(2 ^ 63)<=k/\k<2 ^ 63/\i.length * k.toNat<=sizeLine/\Q (.str (Txt.mul i k)) H)\/Jh K x y H Q\/Me x y H Q
theorem FN:OpR X (binaryOp .Mult) (HP X.K):=op_mul.or (op_mul_str.or (op_repT.or GZ))
theorem Ht (K:PySem.W.Frag):ROk K (HP K) fH:=by
 intro G H x y dx dy d Q s rx ry e q
 unfold fH at e
 split at e
 ·split at e
  ·rename_i hc
   cases e
   exact .inl ⟨_,_,rx.int_inv,ry.int_inv,hc,q _ G H (.refl s) (.int _)⟩
  ·cases e
 ·split at e
  ·rename_i hc
   cases e
   obtain ⟨i,rfl,ei,hi⟩:=rx.str_inv
   subst ei
   rw [Str.len_list] at hc
   exact .inr (.inl ⟨i,_,rfl,ry.int_inv,hc.1,hc.2.1,hc.2.2,q _ G H (.refl s) (.strL (E7 i _) (by rw [qf,Str.len_list,Nat.mul_comm];exact hc.2.2))⟩)
  ·cases e
 ·split at e
  ·rename_i k hc
   cases e
   obtain ⟨a,vs,rfl,ha,ra⟩:=rx.tup_inv
   refine .inr (.inr (.inl ⟨a,_,vs,rfl,ry.int_inv,ha.mono s,hc.1,hc.2.1,by rw [ra.length];exact hc.2.2,fun z=>?_,fun _ _ p hp=>q _ _ _ (.new s hp) (.tup (.of bc) ((ra.rep _).mono (.into (s.free hp))))⟩))
   rcases z with z|z
   ·subst z
    cases ra
    have e:(List.replicate k.toNat ([]:List D)).flatten=[]:=by simp
    rw [e] at q
    exact q _ G H (.refl s) (.tup ha .nil)
   ·subst z
    have e:∀ l:List D,(List.replicate (1:Int).toNat l).flatten=l:=fun l=>by show (List.replicate 1 l).flatten=l;simp
    rw [e] at q
    exact q _ G H (.refl s) (.tup ha ra)
  ·cases e
 ·split at e
  ·rename_i hc
   cases e
   obtain ⟨a,vs,rfl,ha,ra⟩:=rx.lst_inv
   exact .inr (.inr (.inr ⟨a,_,vs,rfl,ry.int_inv,s _ _ ha,hc.1,hc.2.1,by rw [ra.length];exact hc.2.2,fun p hp=>q _ _ _ (.new s hp) (.lst bc ((ra.rep _).mono (.into (s.free hp))))⟩))
  ·cases e
 ·cases e
end
end L2
namespace L2
open PySem PySem.W PySem.Spec PySem.Calls PyProof.Rows
structure ExcCls (K:Frag) (C:Addr):Prop where
 ga:findIn K (.ref C) "__getattribute__"=some (some (.builtin "BaseException.__getattribute__"))
 gt:findIn K (.ref C) "__getattr__"=some none
 cl:findIn K (.ref C) "__class__"=some (some (.builtin "object.__class__"))
 sp:specialIn K (.builtin "object.__class__") "__get__"=some (some (.builtin "getset_descriptor.__get__"))
 tk:takesIn K (.builtin "object.__class__")=some true
 mo:mroIn K C (.type "object")=some true
 be:subIn K (.ref C) (.type "BaseException")=some true
 some:(clsIn K C).isSome=true
section
variable {prog:Program} {w:World} {A:Around} {E:Value->Shared->Prop} {s:Shared} {K:Frag} {a C:Addr}
section
open Builtin Builtin.ObjectAttr Builtin.Getset_descriptor
end
end
section
variable {X:Cx} {pins:List (Addr×Obj)} {σ:St} {G H:Hp} {s:Shared} {A:Around} {E:Value->Shared->Prop} {Q:Value->Shared->Prop}
noncomputable def tyN:D->Option String
 | .non=>some "NoneType"
 | .bl _=>some "bool"
 | .int _=>some "int"
 | .str _=>some "str"
 | .tup _=>some "tuple"
 | .lst _ _=>some "list"
 | .exc _=>none
 | .dct _ _=>none
theorem JB {x:V} {c:Value} {T:String} {b:Bool} (I:Inv X pins σ H s) (sub:Same G H) (r:Rep X.K G x d) (ru:RelV x u) (ht:tyN d=some T) (e:kitOne X.K (.type T) c=some b) (h:∀ tk,Q (.bool b) { s with toks:=tk }) :
  wpAny (model X.prog X.w) A (call (.builtin "isinstance") [u,c]) Q E s:=by
 cases r with
 | non=>cases ht;cases ru;exact kia_one kitx_none I.kIn True.intro e (fun z=>nomatch z) h
 | bl y=>cases ht;cases ru;exact kia_one kitx_bool I.kIn True.intro e (fun z=>nomatch z) h
 | int i=>cases ht;obtain ⟨t,rfl⟩:=ru;exact kia_one kitx_int I.kIn True.intro e (fun z=>nomatch z) h
 | str y hy=>cases ht;obtain ⟨t,rfl⟩:=ru;exact kia_one kitx_str I.kIn True.intro e (fun z=>nomatch z) h
 | tup hh t=>
  cases ht;cases ru
  obtain ⟨its,rv,⟨o,h1,h2,_⟩,_⟩:=I.tuple (hh.mono sub)
  exact kia_one kitx_tuple I.kIn ⟨o,h1,h2⟩ e (fun z=>nomatch z) h
 | lst hh t=>
  cases ht;cases ru
  obtain ⟨its,rv,⟨o,n,h1,h2,_⟩,_⟩:=I.list ((SqL.of hh:SqL X.K G _ _).mono sub)
  exact kia_one kitx_list I.kIn ⟨o,h1,h2⟩ e (fun z=>nomatch z) h
 | fls hh t=>
  cases ht;cases ru
  obtain ⟨its,rv,⟨o,n,h1,h2,_⟩,_⟩:=I.list (hh.mono sub)
  exact kia_one kitx_list I.kIn ⟨o,h1,h2⟩ e (fun z=>nomatch z) h
 | exc hh=>cases ht
 | dct _ _ _=>cases ht
end
section
variable {X:Cx} {e:Expr} {ga:Ev->R D} {y:Str} {p p2 pos:Pos}
noncomputable def jA (f:String->Bool) (d:D):R D:=match tyN d with
 | some t=>.ok (.bl (f t))
 | none=>.no
theorem im {T:String} (f:String->Bool) (hf:∀ K:Frag,∀ t∈["NoneType","bool","int","str","tuple","list"],kitOne K (.type t) (.type T)=some (f t)) (hg:Gl X "isinstance") (hm:X.mg "isinstance"=none) (hg2:Gl X y) (hm2:X.mg y=none)
 (hv:bootBuiltins y=some (.type T)) (ha:QF X e ga) (hs1:starEach [e,.Name y p2] X.env=(false,eval e X.env)::starEach [.Name y p2] X.env:=by rfl)
 (hn:y ≠ "__name__":=by decide) (hdb:(y==("__debug__":Str))=false:=by decide) :
  QF X (.Call (.Name "isinstance" p) [e,.Name y p2] [] pos) (fun ρ=>ga ρ>>=jA f):=by
 intro pins s σ H Q I h
 have hc:nJ X (.builtin "isinstance") (fun xs H Q=>∃ x G d,xs=[x,.ty T]/\Same G H/\Rep X.K G x d/\∃ t,tyN d=some t/\Q (.bl (f t)) H):=by
  intro pins s σ H xs us Q I r ⟨x,G,d,ex,sub,rd,t,et,q⟩
  subst ex
  obtain ⟨u,u2,rfl,r1,r2⟩:=r.two
  cases r2
  refine JB I sub rd r1 et (hf X.K t ?_) fun tk=>⟨.bl (f t),H,I.tok tk,rfl,q⟩
  cases d <;> cases et <;> simp
 refine wB hc hg hm PyProof.Rows.Boot.«isinstance» (dh ha (dh (EA (v:=.ty T) hg2 hm2 hv rfl hn hdb) jG) hs1) (by decide) (by decide) hs1 rfl pins s σ H Q I ?_
 obtain ⟨G,ρ,st,h⟩:=h
 refine tG.intro st h fun x v G1 H1 u1 st1 r1 h1=>?_
 refine ⟨v,G1,x,rfl,st1.sub,r1,?_⟩
 unfold jA at h1
 cases et:tyN x with
 | none=>rw [et] at h1;exact h1.elim
 | some t=>rw [et] at h1;exact ⟨t,rfl,h1 _ G1 H1 (.refl st1.sub) (.bl _)⟩
end
end L2
namespace L2
open PySem PySem.Spec PyProof.Rows
noncomputable def Bx:List D->Option (List Bool)
 | []=>some []
 | .bl b::ds=>(Bx ds).map (b::·)
 | _=>none
theorem Reps.bls {K:PySem.W.Frag}:∀ {vs:List V} {ds:List D} {bs:List Bool},Reps K G vs ds->Bx ds=some bs->vs=bs.map .bl
 | _,_,bs,.nil,e=>by cases e;rfl
 | _,_,bs,.cons r t,e=>by
  cases r with
  | bl b=>
   rename_i ds
   unfold Bx at e
   cases q:Bx ds with
   | none=>rw [q] at e;cases e
   | some cs=>rw [q] at e;cases e;rw [Reps.bls t q];rfl
  | _=>simp [Bx] at e
theorem Vals.bls:∀ {bs:List Bool} {us:List Value},Vals (bs.map V.bl) us->us=bs.map Value.bool
 | [],_,.nil=>rfl
 | b::bs,_,.cons r t=>by rw [Vals.bls t,show _=Value.bool b from r];rfl
section
variable {X:Cx} {e o:Expr} {es:List Expr} {ga gb:Ev->R D} {gl:Ev->R (List D)} {pos:Pos}
noncomputable def NI (K:PySem.W.Frag) (f:List Bool->Bool):List V->Hp->VK->Prop:=fun xs H Q=>∃ p bs,xs=[.ref p]/\SqL K H p (bs.map V.bl)/\Q (.bl (f bs)) H
theorem AU (A:Around) (prog:Program) (w:World) (bs:List Bool):TruthOf prog w A (fun i v=>(bs.map Value.bool).toArray[i]?=some v) (fun i=>bs.getD i true):=by
 intro i v s Q E hP hQ
 rw [List.getElem?_toArray,List.getElem?_map] at hP
 cases q:bs[i]? with
 | none=>rw [q] at hP;cases hP
 | some b=>
  rw [q] at hP
  cases hP
  have e:bs.getD i true=b:=by rw [List.getD_eq_getElem?_getD,q];rfl
  have hQ:Q (bs.getD i true) s:=hQ
  rw [e] at hQ
  exact wpAny_truthy_bool hQ
theorem AZ (hc:X.calm=true):nJ X (.builtin "all") (NI X.K fun bs=>bs.all id):=by
 intro pins s σ H xs us Q I r ⟨p,bs,ex,hs,q⟩
 subst ex
 obtain ⟨u,rfl,r1⟩:=r.one
 cases r1
 obtain ⟨its,rv,pl,hz⟩:=I.list hs
 obtain rfl:=rv.bls
 have hh:X.A.in1.handled=none:=I.ok.hd hc
 have hlt:p<s.heap.objs.size:=by obtain ⟨o,n,e,_⟩:=id pl;exact Heap.lt_size e
 refine call_all_walk (wpAny_pyIter_list pl.isList ?_)
 refine ⟨s.heap.objs.size,[s.heap.objs.size,p],[s.heap.objs.size],_,_,_,fun i=>bs.getD i true,rfl,Walks.list hh s.heap.objs.size p (Nat.ne_of_lt hlt) (bs.map Value.bool).toArray,⟨⟨_,Heap.get?_push_size _ rfl,rfl,rfl⟩,?_⟩,AU _ _ _ bs,fun h' tk hk=>?_⟩
 ·obtain ⟨o,n,e,c,_,d⟩:=id pl
  exact ⟨o,Heap.get?_push_of_some _ e,c,n,d⟩
 ·have e:(List.range (bs.map Value.bool).toArray.size).all (fun i=>bs.getD i true)=bs.all id:=by
   rw [List.size_toArray,List.length_map];exact oJ rfl
  rw [e]
  refine ⟨.bl _,H,I.kept (t':=tk) fun b o eb=>hk b o (fun z=>?_) (Heap.get?_push_of_some _ eb),rfl,q⟩
  have:b=s.heap.objs.size:=by simpa using z
  exact Nat.lt_irrefl _ (this ▸ Heap.lt_size eb)
noncomputable def DF:List D->Option D
 | [.lst _ ds]=>(Bx ds).map fun bs=>.bl (bs.all id)
 | _=>none
theorem BM (hc:X.calm=true) (hg:Gl X "all") (hm:X.mg "all"=none) (ha:QFA X [e] gl) (he:starEach [e] X.env=[(false,eval e X.env)]:=by rfl):QF X (.Call (.Name "all" p) [e] [] pos) (fun ρ=>gl ρ>>=fun ds=>ofO (DF ds)):=
 kz (AZ hc) (by
  intro G H xs ds d Q s r e q
  unfold DF at e
  split at e
  ·rename_i f ds
   obtain ⟨v,rfl,r1⟩:=r.one
   obtain ⟨a,vs,rfl,h,t⟩:=r1.seq_inv
   cases eb:Bx ds with
   | none=>rw [eb] at e;cases e
   | some bs=>
    rw [eb] at e
    cases e
    obtain rfl:=t.bls eb
    exact ⟨a,bs,rfl,h.mono s,q _ G H (.refl s) (.bl _)⟩
  ·cases e) hg hm PyProof.Rows.Boot.«all» ha (he:=by rw [he];rfl)
noncomputable def JQ (K:PySem.W.Frag) (T:String) (r:V->List V->Hp->VK->Prop) (f:D->List D->Option D):Prop:=∀ (G H:Hp) (x:V) (xs:List V) (dx:D) (ds:List D) (d:D) (Q:VK),Same G H->Rep K G x dx->Reps K G xs ds->f dx ds=some d->Fin G H (Rep K) Q d->r x xs H Q
noncomputable def oB (T:String):D->Bool
 | .str _=>T=="str"
 | .lst _ _=>T=="list"
 | _=>false
theorem rS {T id:String} {ap cp:Pos} {r:V->List V->Hp->VK->Prop} {f:D->List D->Option D} (pa:PlainAttrs T) (slot:PySem.Slot T name id) (hty:typeOf (.builtin id)=pure (.type "method_descriptor")) (hm:MtR X id r) (hf:JQ X.K T r f) (ho:QF X o ga) (ha:QFA X (e::es) gl)
 (hbase:attributeBase o name X.env (eval o X.env)=eval o X.env:=by rfl)
 (hfew:((backTo cp (starEach (e::es) X.env)).all (fun x=>!x.1) && (backToKw cp (keywordEach [] X.env)).all (fun x=>x.1.isSome)
 && decide ((e::es).length+([]:List Keyword).length+(if ([]:List Keyword).isEmpty then 0 else 1)<30))=true:=by rfl)
 (hline:(ap.endLine==cp.line)=true:=by rfl) (hs:starEach (e::es) X.env=(false,eval e X.env)::starEach es X.env:=by rfl) (hplain:(backTo cp (starEach es X.env)).any (·.1)=false:=by rfl) :
  QF X (.Call (.Attribute o name ap) (e::es) [] cp) (fun ρ=>ga ρ>>=fun x=>if oB T x=true then gl ρ>>=fun ds=>ofO (f x ds) else .no):=by
 intro pins s σ H Q I h
 refine B1 pa slot hty hm ho ha hbase hfew hline hs hplain pins s σ H Q I ?_
 obtain ⟨G,ρ,st,h⟩:=h
 refine tG.intro st h fun x v G1 H1 u1 st1 r1 h1=>?_
 by_cases hk:oB T x=true
 ·rw [if_pos hk] at h1
  have ty:tyV X.K T v H1:=by
   cases r1 with
   | str y hy=>exact show T="str" by simpa [oB] using hk
   | lst hh t=>exact .inl ⟨by simpa [oB] using hk,_,.of (st1.sub _ _ hh)⟩
   | fls hh t=>exact .inl ⟨by simpa [oB] using hk,_,hh.mono st1.sub⟩
   | _=>cases hk
  refine ⟨ty,tG.intro st1 h1 fun ds vs G2 H2 u2 st2 r2 h2=>?_⟩
  obtain ⟨d,e',q⟩:=ofO.ok h2
  exact hf G2 H2 v vs x ds d Q st2.sub (r1.mono u2.gg) r2 e' q
 ·rw [if_neg hk] at h1;exact h1.elim
noncomputable def fu (x y:List Nat):List Nat:=(Txt.rstripChars ⟨x.toArray⟩ ⟨y.toArray⟩).cps.toList
noncomputable def kB:D->List D->Option D
 | .str x,[.str y]=>some (.str (fu x y))
 | _,_=>none
theorem Str.of_list {x:List Nat} (e:y.cps.toList=x):(⟨x.toArray⟩:Str)=y:=by
 subst e;simp
noncomputable def zZ:V->List V->Hp->VK->Prop:=fun x vs H Q=>∃ y z:Str,x=.str y/\vs=[.str z]/\y.length<=sizeLine/\Q (.str (Txt.rstripChars y z)) H
theorem AV:MtR X "str.rstrip" zZ:=by
 intro pins s σ H x xs v us Q I rx rv ⟨y,z,ex,exs,hz,q⟩
 subst ex exs
 obtain ⟨t,rfl⟩:=rx
 obtain ⟨u,rfl,r1⟩:=rv.one
 obtain ⟨t',rfl⟩:=r1
 exact SCL.rstripChars (fun t'' k _=>⟨.str _,H,I.tok _,⟨_,rfl⟩,q⟩) hz
theorem Bs (K:PySem.W.Frag):JQ K "str" zZ kB:=by
 intro G H x xs dx ds d Q s rx rs e q
 unfold kB at e
 split at e
 ·cases e
  obtain ⟨v,rfl,r1⟩:=rs.one
  obtain ⟨i,rfl,ei,hi⟩:=rx.str_inv
  obtain ⟨j,rfl,ej,hj⟩:=r1.str_inv
  refine ⟨i,j,rfl,rfl,hi,q _ G H (.refl s) (.strL ?_ ?_)⟩
  ·unfold fu;rw [Str.of_list ei,Str.of_list ej]
  ·unfold fu;rw [Str.of_list ei,Str.of_list ej,Str.len_list];exact Nat.le_trans (len_rstripChars i j) hi
 ·cases e
theorem uY {ap cp:Pos} (ho:QF X o ga) (ha:QFA X [e] gl) (hbase:attributeBase o "rstrip" X.env (eval o X.env)=eval o X.env:=by rfl)
 (hfew:((backTo cp (starEach [e] X.env)).all (fun x=>!x.1) && (backToKw cp (keywordEach [] X.env)).all (fun x=>x.1.isSome)
 && decide ([e].length+([]:List Keyword).length+(if ([]:List Keyword).isEmpty then 0 else 1)<30))=true:=by rfl)
 (hline:(ap.endLine==cp.line)=true:=by rfl) (hs:starEach [e] X.env=(false,eval e X.env)::starEach [] X.env:=by rfl) :
  QF X (.Call (.Attribute o "rstrip" ap) [e] [] cp) (fun ρ=>ga ρ>>=fun x=>if oB "str" x=true then gl ρ>>=fun ds=>ofO (kB x ds) else .no):=
 rS PySem.F.plainAttrs_str PySem.F.slot_str_rstrip PySem.F.type_str_rstrip AV (Bs _) ho ha hbase hfew hline hs rfl
end
noncomputable def sZ:List Nat->List D->Ev->R Ev
 | [],[],ρ=>.ok ρ
 | i::is,d::ds,ρ=>sZ is ds (ρ.set i (some (.val d)))
 | _,_,_=>.no
theorem pw:∀ (is:List Nat) (ds:List D) (ρ:Ev) (C:Addr),sZ is ds ρ ≠ .ex C
 | [],[],_,_=>by intro z;cases z
 | [],_::_,_,_=>by intro z;cases z
 | _::_,[],_,_=>by intro z;cases z
 | i::is,d::ds,ρ,C=>pw is ds _ C
section
variable {X:Cx} {e:Expr} {es:List Expr} {ga:Ev->R D} {gl:Ev->R (List D)} {pos:Pos}
noncomputable def JJ (X:Cx) (es:List Expr) (is:List Nat):Prop:=PGs X es (fun vs σ H Q=>∃ G₀ H₀ G ρ ds ρ',StR X.K G₀ H₀ G H σ ρ/\Reps X.K G vs ds/\sZ is ds ρ=.ok ρ'/\∀ σ',StR X.K G₀ H₀ G H σ' ρ'->Q σ' H)
theorem iM:JJ X [] []:=by
 intro pins s σ H vs us Q I r h
 obtain ⟨G₀,H₀,G,ρ,ds,ρ',sr,rd,e,q⟩:=h
 refine FS pins s σ H vs us Q I r ?_
 cases rd with
 | nil=>cases e;exact ⟨rfl,q σ sr⟩
 | cons _ _=>cases e
theorem cb (i:Nat) {is:List Nat} (hN:X.N.Nodup) (h2:JJ X es is) (hi:X.N[i]?=some x:=by rfl) (hx:Loc X.env.scope x:=by first|exact Or.inl rfl|exact Or.inr rfl)
 (hs:(assignEach (.Name x p::es) X.env).map (·.2)=assign (.Name x p) X.env::(assignEach es X.env).map (·.2):=by rfl) (hf:X.fn x=true\/X.env.scope.names.lookup x=some .local:=by first|exact .inl rfl|exact .inr rfl) :
  JJ X (.Name x p::es) (i::is):=by
 intro pins s σ H vs us Q I r h
 obtain ⟨G₀,H₀,G,ρ,ds,ρ',sr,rd,e,q⟩:=h
 refine Dj (kE (i:=i) hN hi hx hf) h2 hs pins s σ H vs us Q I r ?_
 cases rd with
 | nil=>cases e
 | cons r1 t1=>exact ⟨_,_,rfl,G₀,H₀,G,_,_,ρ',sr.set r1 i,t1,e,q⟩
noncomputable def vT (is:List Nat) (d:D) (ρ:Ev):R Ev:=match d with
 | .tup ds=>sZ is ds ρ
 | _=>.no
theorem sM:∀ (is:List Nat) (ds:List D) (ρ ρ':Ev),sZ is ds ρ=.ok ρ'->ds.length=is.length
 | [],[],_,_,_=>rfl
 | [],_::_,_,_,e=>by cases e
 | _::_,[],_,_,e=>by cases e
 | i::is,d::ds,ρ,ρ',e=>by simp [sM is ds _ ρ' e]
theorem kG {is:List Nat} (hc:X.calm=true) (h:JJ X es is) (hn:(assignEach es X.env).length=is.length:=by rfl) (hst:(assignEach es X.env).findIdx? (·.1)=none:=by rfl):PGF X (.Tuple es k pos) (vT is):=by
 intro pins s σ H v u Q I r q
 obtain ⟨G₀,H₀,G,ρ,d,ρ',sr,rd,e,q⟩:=q
 refine Hi hc h hn hst pins s σ H v u Q I r ?_
 cases rd with
 | tup hh t=>
  rename_i ds
  exact ⟨_,_,rfl,hh.mono sr.e.sub,by rw [t.length];exact sM is ds ρ ρ' e,G₀,H₀,G,ρ,ds,ρ',sr,t,e,q⟩
 | _=>cases e
theorem fQ (is:List Nat):∀ (d:D) (ρ:Ev) (C:Addr),vT is d ρ ≠ .ex C:=fun d ρ C=>by
 cases d with
 | tup ds=>exact pw is ds ρ C
 | _=>intro z;cases z
theorem rJ {np cp:Pos} {bm:List Value} {B newId initId:String} (Oc:OwnCls x C bm newId X.mg X.base) (FB:ExcBaseFacts B newId initId bm) (hh:X.A.handled=none) (hg:Gl X x) (ha:QFA X [e] gl)
 (hdb:(x==("__debug__":Str))=false:=by decide) (hs:starEach [e] X.env=(false,eval e X.env)::starEach [] X.env:=by rfl) (hz:∀ ρ ds,gl ρ=.ok ds->ds.length<=1:=by intro _ _ z;first|(cases z;decide)|skip) :
  QSF X (.Raise (some (.Call (.Name x np) [e] [] cp)) none pos) (fun ρ=>(gl ρ).out ρ fun _=>.ex C ρ):=fun G₀ H₀ pins s σ H D I h=>by
 obtain ⟨G,ρ,sr,h⟩:=h
 dsimp only at h
 obtain ⟨tl,N,nm,qn,bs,hdct,sn,sub,ab,col,dd,k0,k1,k2,k3,k5,mN,hC,hN,hni,T⟩:=Oc.obj
 refine wpAny_Raise_call_subT (C:=C) (nm:=nm) (q:=qn) (N:=N) (bs:=bs) (bm:=tl) (hdct:=hdct) (sn:=sn) (sub:=sub) (ab:=ab) (col:=col) (dd:=dd) (k0:=k0) (k1:=k1) (k2:=k2) (k3:=k3) (k5:=k5)
  FB (mN:=mN) (T.hasType FB.hasBase) hh (by rw [hs];rfl) hni (rj I hg Oc.bound ⟨rfl,?_⟩ hdb)
 have t:tAF X gl σ H (fun vs H1=>vs.length<=sizeLine/\∃ G1,Up G H G1 H1/\lj X G₀ H₀ D (.ex C ρ)):=by
  refine ⟨G,ρ,sr.e,?_⟩
  cases q:gl ρ with
  | ok ds=>
   rw [q] at h
   intro vs G1 H1 u r
   exact ⟨by rw [r.length];exact Nat.le_trans (hz ρ ds q) (by decide),G1,u,h⟩
  | ex C'=>rw [q] at h;exact Exx.of sr h
  | no=>rw [q] at h;exact h
 have hA:=ha cp pins s σ H _ I t
 rw [hs] at hA ⊢
 refine Calls.evalArgs_plain (wpAny_mono hA (fun vs s₂ q=>?_) fun _ _ y=>y)
 obtain ⟨vs',H1,I1,r,hz,G1,u,h⟩:=q
 exact ⟨rfl,by show vs.length<=sizeLine;rw [<- r.length];exact hz,I1.bk _ _ hC,hN.keeps I1.bk,T.keeps I1.bk,fun h' a made=>h _ _ (.of (sr.ups u) ⟨pins,s₂,a,rfl,I1,.inl ⟨h',vs,made,rfl⟩⟩)⟩
end
section
variable {X:Cx} {pins:List (Addr×Obj)} {σ:St} {H:Hp} {s:Shared}
theorem Inv.cx {A':Around} {calm':Bool} {pn' pins':List (Addr×Obj)} {xe':Value->Shared->Prop} (I:Inv X pins σ H s) (hp:∀ p∈pn'++pins',p∈X.pn++pins) (hA:A'.frames=X.A.frames) (hd:calm'=true->A'.handled=none) :
  Inv { X with A:=A',calm:=calm',pn:=pn',xe:=xe' } pins' σ H s:=
 ⟨⟨I.ok.mod,I.ok.kind,I.ok.glob,I.ok.blt,I.ok.above,I.ok.inj,I.ok.has,I.ok.cab,hd,hA.trans I.ok.frames,I.ok.stk,I.ok.exf,I.ok.bs,I.ok.bsz,I.ok.noex,I.ok.exfs,I.ok.funs,I.ok.frf,I.ok.tabs⟩,
  I.os,I.bare,I.base,I.loc,I.cell,I.free,I.freeC,fun p q=>I.pin p (hp p q),I.hok,I.len⟩
end
noncomputable def Mi (gb gs:Ev->O) (f:Addr->Option Bool) (i:Nat):Ev->O:=fun ρ=>match gb ρ with
 | .ex C ρ'=>(match f C with
  | some true=>(match gs (ρ'.set i (some (.val (.exc C)))) with
   | .nx ρ''=>.nx (ρ''.set i none)
   | .rt d=>.rt d
   | _=>.no)
  | _=>.no)
 | o=>o
structure Callee (P:Program) (w:World) (K:PySem.W.Frag) (mg:Str->Option Value) (base:Heap) (x:Str) (k n:Nat) (g:List D->R D):Prop where
 ex:∃ f fd ps,FnF P w K mg base k f fd ps g/\mg x=some (.ref f)/\PySem.W.keepIn K (.ref f)=true/\Binds K fd ps []/\ps.length=n
theorem xK {n:Nat} {e:Expr} (c:Callee X.prog X.w X.K X.mg X.base x k n g) (hr:Room k X.A) (ha:QFA X (e::es) gl) (hg:Gl X x:=by rfl)
 (hdb:(x==("__debug__":Str))=false:=by decide) (he:starEach (e::es) X.env=(false,eval e X.env)::starEach es X.env:=by rfl) (hpl:(backTo pos (starEach es X.env)).any (·.1)=false:=by rfl) :
  QF X (.Call (.Name x p) (e::es) [] pos) (fun ρ=>gl ρ>>=fun ds=>if ds.length=n then g ds else .no):=by
 obtain ⟨f,fd,ps,F,hm,hk,hb,rfl⟩:=c.ex
 exact zH F hr hg hm hk hb ha hdb he hpl
theorem FnF.to {w:World} {K:PySem.W.Frag} {mg:Str->Option Value} {base:Heap} {g':List D->R D} (F:FnF P w K mg base k f fd ps g) (h:∀ ds,ds.length=ps.length->g' ds=.no\/g ds=g' ds):FnF P w K mg base k f fd ps g':=by
 refine F.imp fun vs H Q E ⟨hl,G,ds,sub,r,q⟩=>⟨hl,G,ds,sub,r,?_⟩
 rcases h ds (by rw [<- r.length];exact hl) with z|z
 ·rw [z] at q;exact q.elim
 ·rw [z];exact q
theorem Fun.callee {w:World} {K:PySem.W.Frag} {mg:Str->Option Value} {base:Heap} (F:Fun K x x st f fd) (hm:mg x=some (.ref f)) (ok:FnF P w K mg base k f fd ps g)
 (h:∀ (kV doc pm:Value) (an:Option Addr) (cdv ct:Value) (us:List Value),us.length=ps.length->bindArgs (PySem.W.fnOf x x (jl st) (cI st) (ao st) .none kV doc pm an cdv ct) ⟨us,[]⟩=pure (ps.zip us)):Callee P w K mg base x k ps.length g:=
 ⟨f,fd,ps,ok,hm,F.kp,F.binds h,rfl⟩
theorem ia {T:String} {f:String->Bool} (h:∀ K:PySem.W.Frag,PySem.W.kitOne K (.type "NoneType") (.type T)=some (f "NoneType")/\PySem.W.kitOne K (.type "bool") (.type T)=some (f "bool")/\PySem.W.kitOne K (.type "int") (.type T)=some (f "int")/\
 PySem.W.kitOne K (.type "str") (.type T)=some (f "str")/\PySem.W.kitOne K (.type "tuple") (.type T)=some (f "tuple")/\PySem.W.kitOne K (.type "list") (.type T)=some (f "list")) :
  ∀ K:PySem.W.Frag,∀ t∈["NoneType","bool","int","str","tuple","list"],PySem.W.kitOne K (.type t) (.type T)=some (f t):=fun K t ht=>by
 obtain ⟨h1,h2,h3,h4,h5,h6⟩:=h K
 simp only [List.mem_cons,List.mem_nil_iff,or_false] at ht
 rcases ht with rfl|rfl|rfl|rfl|rfl|rfl <;> assumption
def isInt (t:String):Bool:=t=="int" || t=="bool"
section
variable {X:Cx} {e:Expr} {ga:Ev->R D} {p p2 pos:Pos}
theorem yG (hm:X.mg "isinstance"=none) (ha:QF X e ga) (hm2:X.mg "int"=none) (hg2:Gl X "int":=by rfl) (hg:Gl X "isinstance":=by rfl) (hs1:starEach [e,.Name "int" p2] X.env=(false,eval e X.env)::starEach [.Name "int" p2] X.env:=by rfl):QF X (.Call (.Name "isinstance" p) [e,.Name "int" p2] [] pos) (fun ρ=>ga ρ>>=jA isInt):=
 im (T:="int") isInt (ia fun K=>⟨rfl,rfl,rfl,rfl,rfl,rfl⟩) hg hm hg2 hm2 PyProof.Rows.Boot.«int» ha hs1
theorem vi (hm:X.mg "isinstance"=none) (ha:QF X e ga) (hm2:X.mg "bool"=none) (hg2:Gl X "bool":=by rfl) (hg:Gl X "isinstance":=by rfl) (hs1:starEach [e,.Name "bool" p2] X.env=(false,eval e X.env)::starEach [.Name "bool" p2] X.env:=by rfl):QF X (.Call (.Name "isinstance" p) [e,.Name "bool" p2] [] pos) (fun ρ=>ga ρ>>=jA (·=="bool")):=
 im (T:="bool") (·=="bool") (ia fun K=>⟨rfl,rfl,rfl,rfl,rfl,rfl⟩) hg hm hg2 hm2 PyProof.Rows.Boot.«bool» ha hs1
theorem xZ (hm:X.mg "isinstance"=none) (ha:QF X e ga) (hm2:X.mg "str"=none) (hg2:Gl X "str":=by rfl) (hg:Gl X "isinstance":=by rfl) (hs1:starEach [e,.Name "str" p2] X.env=(false,eval e X.env)::starEach [.Name "str" p2] X.env:=by rfl):QF X (.Call (.Name "isinstance" p) [e,.Name "str" p2] [] pos) (fun ρ=>ga ρ>>=jA (·=="str")):=
 im (T:="str") (·=="str") (ia fun K=>⟨rfl,rfl,rfl,rfl,rfl,rfl⟩) hg hm hg2 hm2 PyProof.Rows.Boot.«str» ha hs1
theorem tM (hm:X.mg "isinstance"=none) (ha:QF X e ga) (hm2:X.mg "tuple"=none) (hg2:Gl X "tuple":=by rfl) (hg:Gl X "isinstance":=by rfl) (hs1:starEach [e,.Name "tuple" p2] X.env=(false,eval e X.env)::starEach [.Name "tuple" p2] X.env:=by rfl):QF X (.Call (.Name "isinstance" p) [e,.Name "tuple" p2] [] pos) (fun ρ=>ga ρ>>=jA (·=="tuple")):=
 im (T:="tuple") (·=="tuple") (ia fun K=>⟨rfl,rfl,rfl,rfl,rfl,rfl⟩) hg hm hg2 hm2 PyProof.Rows.Boot.«tuple» ha hs1
theorem vO (hm:X.mg "isinstance"=none) (ha:QF X e ga) (hm2:X.mg "list"=none) (hg2:Gl X "list":=by rfl) (hg:Gl X "isinstance":=by rfl) (hs1:starEach [e,.Name "list" p2] X.env=(false,eval e X.env)::starEach [.Name "list" p2] X.env:=by rfl):QF X (.Call (.Name "isinstance" p) [e,.Name "list" p2] [] pos) (fun ρ=>ga ρ>>=jA (·=="list")):=
 im (T:="list") (·=="list") (ia fun K=>⟨rfl,rfl,rfl,rfl,rfl,rfl⟩) hg hm hg2 hm2 PyProof.Rows.Boot.«list» ha hs1
end
def cw (ga:Ev->R D):Ev->O:=fun ρ=>(ga ρ).out ρ .rt
def aC (g1 g2:Ev->O):Ev->O:=fun ρ=>(g1 ρ).seq g2
noncomputable def oIf (gt:Ev->R Bool) (g1 g2:Ev->O):Ev->O:=fun ρ=>(gt ρ).out ρ fun k=>if k=true then g1 ρ else g2 ρ
def oNx:Ev->O:=fun ρ=>.nx ρ
noncomputable def eF (i:Nat) (ga:Ev->R D):Ev->O:=fun ρ=>(ga ρ).out ρ fun d=>.nx (ρ.set i (some (.val d)))
noncomputable def BD (i:Nat) (gl:Ev->R (List D)):Ev->O:=fun ρ=>(gl ρ).out ρ fun ds=>.nx (ρ.set i (some (.own ds)))
def oW (ga:Ev->R D):Ev->O:=fun ρ=>(ga ρ).out ρ fun _=>.nx ρ
noncomputable def sK (asg:D->Ev->R Ev) (gi:Ev->R (List D)) (g:Ev->O):Ev->O:=fun ρ=>(gi ρ).out ρ fun items=>cH asg g items ρ
noncomputable def jM (C:Addr) (gl:Ev->R (List D)):Ev->O:=fun ρ=>(gl ρ).out ρ fun _=>.ex C ρ
noncomputable def NK (asg:D->Ev->R Ev) (ga:Ev->R D):Ev->O:=fun ρ=>(ga ρ).out ρ fun d=>(asg d ρ).out ρ .nx
def BB (i:Nat) (g:Ev->O):Ev->O:=fun ρ=>g (frz i ρ)
noncomputable def aH {α β:Type} (f:α->R β) (ga:Ev->R α):Ev->R β:=fun ρ=>ga ρ>>=f
noncomputable def gOf (f:List D->Option D) (gl:Ev->R (List D)):Ev->R D:=fun ρ=>gl ρ>>=fun ds=>ofO (f ds)
noncomputable def aa (ga:Ev->R D) (gl:Ev->R (List D)):Ev->R (List D):=fun ρ=>ga ρ>>=fun x=>gl ρ>>=fun xs=>.ok (x::xs)
noncomputable def aM (n:Nat) (g:List D->R D) (gl:Ev->R (List D)):Ev->R D:=fun ρ=>gl ρ>>=fun ds=>if ds.length=n then g ds else .no
noncomputable def cu (gl:Ev->R (List D)):Ev->R D:=fun ρ=>gl ρ>>=fun ds=>.ok (.lst false ds)
noncomputable def vJ (gl:Ev->R (List D)):Ev->R (List D):=fun ρ=>gl ρ>>=fun ds=>if ds.length<=sizeLine then .ok ds else .no
noncomputable def gB2 (f:D->D->Option D) (ga gb:Ev->R D):Ev->R Bool:=fun ρ=>g2 f ga gb ρ>>=asB
noncomputable def gB3 (f f':D->D->Option D) (ga gb gc:Ev->R D):Ev->R Bool:=fun ρ=>g3 f f' ga gb gc ρ>>=asB
noncomputable def gBn (gt:Ev->R Bool):Ev->R Bool:=fun ρ=>gt ρ>>=fun k=>.ok (!k)
noncomputable def iy (ga:Ev->R D):Ev->R (Option Int):=fun ρ=>ga ρ>>=fun x=>asI x>>=fun i=>.ok (some i)
noncomputable def sv (T:String) (f:D->List D->Option D) (ga:Ev->R D) (gl:Ev->R (List D)):Ev->R D:=fun ρ=>ga ρ>>=fun x=>if oB T x=true then gl ρ>>=fun ds=>ofO (f x ds) else .no
theorem Callee.mono {w:World} {K:PySem.W.Frag} {mg:Str->Option Value} {base:Heap} {n:Nat} (c:Callee P w K mg base x k n g) (k':Nat) (h:k<=k':=by decide):Callee P w K mg base x k' n g:=by
 obtain ⟨f,fd,ps,F,hm,hk,hb,e⟩:=c.ex
 exact ⟨f,fd,ps,{ F with run:=fun A outer s H args us vs Q E hr=>F.run A outer s H args us vs Q E (hr.mono h) },hm,hk,hb,e⟩
section
variable {X:Cx} {st:Stmt} {cJ body sa sb:List Stmt} {e a b c o tg:Expr} {es:List Expr} {g gs1 gs2:Ev->O} {ga gb gc:Ev->R D} {gt:Ev->R Bool} {gl:Ev->R (List D)} {pos p p2:Pos} {x:Str}
theorem FO (i:Nat) (hN:X.N.Nodup) (he:QF X e ga) (hi:X.N[i]?=some x:=by rfl) (hx:Loc X.env.scope x:=by first|exact Or.inl rfl|exact Or.inr rfl)
 (hs:swapsWithSole [.Name x p] e pos.line X.env=pure false:=by rfl) (hw:swappedStores [.Name x p] e X.env=pure none:=by rfl) (hf:X.fn x=true\/X.env.scope.names.lookup x=some .local:=by first|exact .inl rfl|exact .inr rfl) :
  QSF X (.Assign [.Name x p] e pos) (eF i ga):=yj i hN he hi hx hs hw hf
theorem rQ (ha:QF X e ga) (hr:QFA X es gl) (hs:starEach (e::es) X.env=(false,eval e X.env)::starEach es X.env:=by rfl):QFA X (e::es) (aa ga gl):=yM ha hr hs
end
@[simp] theorem R.ok_out {α:Type} (a:α) (ρ:Ev) (k:α->O):(R.ok a).out ρ k=k a:=rfl
@[simp] theorem R.ex_out {α:Type} (C:Addr) (ρ:Ev) (k:α->O):(R.ex C:R α).out ρ k=.ex C ρ:=rfl
@[simp] theorem mT {α:Type} (a:α):dH (R.ok a)=R.ok a:=rfl
theorem mw {gt:Ev->R Bool} {ge:Ev->R D} (p:D->Bool) (h:D->D) (tl:Ev):∀ (ds:List D) (a:Option Sl),(∀ d∈ds,gt (some (.val d)::tl)=.ok (p d)/\(p d=true->ge (some (.val d)::tl)=.ok (h d)))->eO gt ge ds (a::tl)=.ok ((ds.filter p).map h)
 | [],a,_=>rfl
 | d::ds,a,H=>by
  have ih:=mw p h tl ds (some (.val d)) fun x m=>H x (List.mem_cons_of_mem _ m)
  obtain ⟨e1,e2⟩:=H d (List.mem_cons_self ..)
  show (dH (gt (some (.val d)::tl))>>=fun k=>if k=true then dH (ge (some (.val d)::tl))>>=fun x=>eO gt ge ds (some (.val d)::tl)>>=fun xs=>.ok (x::xs) else eO gt ge ds (some (.val d)::tl))=_
  rw [e1,mT,R.ok_bind,ih]
  cases q:p d with
  | true=>rw [if_pos rfl,e2 q,mT,R.ok_bind,R.ok_bind,List.filter_cons_of_pos q];rfl
  | false=>rw [if_neg Bool.false_ne_true,List.filter_cons_of_neg (by rw [q];exact Bool.false_ne_true)]
theorem eB {gt:Ev->R Bool} (h:D->D) (tl:Ev) (ds:List D) (a:Option Sl) (H:∀ d∈ds,gt (some (.val d)::tl)=.ok true/\ge (some (.val d)::tl)=.ok (h d)):eO gt ge ds (a::tl)=.ok (ds.map h):=by
 rw [mw (fun _=>true) h tl ds a fun d m=>⟨(H d m).1,fun _=>(H d m).2⟩,List.filter_eq_self.2 fun _ _=>rfl]
theorem xa (f:D->Bool):∀ ds:List D,Bx (ds.map fun d=>.bl (f d))=some (ds.map f)
 | []=>rfl
 | d::ds=>by
  have ih:=xa f ds
  rw [List.map_cons,List.map_cons]
  unfold Bx
  first|(rw [ih];rfl)|(simp only [ih];rfl)|simp [ih]
theorem lV (f:D->Bool) (k:Bool) (ds:List D):DF [.lst k (ds.map fun d=>.bl (f d))]=some (.bl (ds.all f)):=by
 show (Bx (ds.map fun d=>.bl (f d))).map _=_
 rw [xa]
 show some (D.bl ((ds.map f).all id))=_
 rw [List.all_map];rfl
theorem A1 (a b:Nat):(!decide (([b]:List Nat)<[a]))=decide (a<=b):=by
 have:(([b]:List Nat)<[a]) ↔ b<a:=by
  constructor
  ·intro h
   cases h with
   | rel h=>exact h
   | cons h=>cases h
  ·intro h;exact .rel h
 by_cases h:a<=b
 ·have h2 : ¬ ([b]:List Nat)<[a]:=fun q=>by have:=this.1 q;omega
  simp [h,h2]
 ·have h2:([b]:List Nat)<[a]:=this.2 (by omega)
  simp [h,h2]
theorem fA {N':List Str} (hk:scope.kind=.function:=by rfl)
 (h1:(∀ y∈scope.names,y.2 ≠ .cell)/\(∀ y∈scope.names,y.2=.local->scope.names.lookup y.1=some .local)/\scope.names.lookup x=some .local/\(∀ y∈scope.names,y.2=.free->y.1∈N'.tail)/\N'.Nodup/\N'[0]?=some x/\
 ∀ y∈N'.tail,scope.names.lookup y=some .free/\(y,NameKind.free)∈scope.names:=by decide +kernel)
 (h2:N'.tail.map X.env.kindOf=N'.tail.map fun _=>some NameKind.cell:=by rfl) (h3:N'.tail=ix.map (fun (i:Nat)=>X.N.getD i Str.empty):=by rfl) (h4:ix.all (fun i=>decide (i<X.N.length))=true:=by rfl):CompOk X scope x N' ix:=by
 obtain ⟨a,b,c,d,e,f,g⟩:=h1
 refine ⟨hk,a,b,c,fun y hy h=>?_,e,f,h3,fun i hi=>?_,g⟩
 ·exact List.map_inj_left.1 h2 _ (d y hy h)
 ·exact of_decide_eq_true (List.all_eq_true.1 h4 i hi)
theorem rd0 (d:D) (ρ:Ev):rdV (some (.val d)::ρ) 0=.ok d:=rfl
theorem rd1 (a0:Option Sl) (d:D) (ρ:Ev):rdV (a0::some (.val d)::ρ) 1=.ok d:=rfl
theorem rd2 (a0 a1:Option Sl) (d:D) (ρ:Ev):rdV (a0::a1::some (.val d)::ρ) 2=.ok d:=rfl
theorem rd3 (a0 a1 a2:Option Sl) (d:D) (ρ:Ev):rdV (a0::a1::a2::some (.val d)::ρ) 3=.ok d:=rfl
theorem rd4 (a0 a1 a2 a3:Option Sl) (d:D) (ρ:Ev):rdV (a0::a1::a2::a3::some (.val d)::ρ) 4=.ok d:=rfl
theorem rd5 (a0 a1 a2 a3 a4:Option Sl) (d:D) (ρ:Ev):rdV (a0::a1::a2::a3::a4::some (.val d)::ρ) 5=.ok d:=rfl
theorem rd6 (a0 a1 a2 a3 a4 a5:Option Sl) (d:D) (ρ:Ev):rdV (a0::a1::a2::a3::a4::a5::some (.val d)::ρ) 6=.ok d:=rfl
section
variable {f:List D->R D} {ga gb gc gd:Ev->R D} {ρ:Ev}
theorem DK:aM 1 f (aa ga fun _=>.ok []) ρ=ga ρ>>=fun x=>f [x]:=by
 unfold aM aa
 cases ga ρ <;> rfl
theorem zy:aM 2 f (aa ga (aa gb fun _=>.ok [])) ρ=ga ρ>>=fun x=>gb ρ>>=fun y=>f [x,y]:=by
 unfold aM aa
 cases ga ρ <;> try rfl
 simp only [aa,R.ok_bind]
 cases gb ρ <;> rfl
theorem Aq:aM 3 f (aa ga (aa gb (aa gc fun _=>.ok []))) ρ=ga ρ>>=fun x=>gb ρ>>=fun y=>gc ρ>>=fun z=>f [x,y,z]:=by
 unfold aM aa
 cases ga ρ <;> try rfl
 simp only [aa,R.ok_bind]
 cases gb ρ <;> try rfl
 simp only [R.ok_bind]
 cases gc ρ <;> rfl
end
def At (N:List Str) (i:Nat) (x:Str):Prop:=N[i]?=some x
theorem at0 {l:List Str}:At (x::l) 0 x:=rfl
theorem at1 {l:List Str}:At (y0::x::l) 1 x:=rfl
theorem at2 {l:List Str}:At (y0::y1::x::l) 2 x:=rfl
theorem at3 {l:List Str}:At (y0::y1::y2::x::l) 3 x:=rfl
theorem at4 {l:List Str}:At (y0::y1::y2::y3::x::l) 4 x:=rfl
theorem at5 {l:List Str}:At (y0::y1::y2::y3::y4::x::l) 5 x:=rfl
theorem at6 {l:List Str} {y5:Str}:At (y0::y1::y2::y3::y4::y5::x::l) 6 x:=rfl
theorem at7 {l:List Str} {y5 y6:Str}:At (y0::y1::y2::y3::y4::y5::y6::x::l) 7 x:=rfl
theorem at8 {l:List Str} {y5 y6 y7:Str}:At (y0::y1::y2::y3::y4::y5::y6::y7::x::l) 8 x:=rfl
theorem at9 {l:List Str} {y5 y6 y7 y8:Str}:At (y0::y1::y2::y3::y4::y5::y6::y7::y8::x::l) 9 x:=rfl
theorem JO {l:List Str} {y5 y6 y7 y8 y9:Str}:At (y0::y1::y2::y3::y4::y5::y6::y7::y8::y9::x::l) 10 x:=rfl
theorem Ml {l:List Str} {y5 y6 y7 y8 y9 y10:Str}:At (y0::y1::y2::y3::y4::y5::y6::y7::y8::y9::y10::x::l) 11 x:=rfl
theorem FT {ga:Ev->R D} (h:aa ga (fun _=>.ok []) ρ=.ok ds):ds.length<=1:=by
 unfold aa at h
 cases e:ga ρ with
 | ok x=>rw [e] at h;cases h;exact Nat.le_refl _
 | ex C=>rw [e] at h;cases h
 | no=>rw [e] at h;cases h
structure Ref (x:Str) (C:Addr) (mg:Str->Option Value) (base:Heap):Prop where
 ex:∃ bm B newId initId,OwnCls x C bm newId mg base/\ExcBaseFacts B newId initId bm
theorem Un.but {fs:List Addr} (hs:Heap.SameBut C h h'):Un fs [C] H H h h':=by
 have ne:∀ b,b ∉ [C]->b≠C:=fun b hb z=>hb (by rw [z];exact List.mem_singleton.2 rfl)
 exact ⟨fun b o e _ _ hx=>(hs.2 b (ne b hx)).trans e,fun b o e _ _ hx=>⟨o.slots,(hs.2 b (ne b hx)).trans e⟩,fun _ _ _ n _=>n,fun b o e hx=>⟨o,(hs.2 b (ne b hx)).trans e⟩,fun _ _ e=>e,fun _ _ _ e=>e,fun _ ps e=>⟨#[],by rw [Array.append_empty];exact e⟩⟩
section
variable {X:Cx} {elt iter:Expr} {ifs:List Expr} {x:Str} {px pos:Pos} {scope:Scope} {N':List Str} {ix:List Nat} {gi:Ev->R (List D)} {gt:Ev->R Bool} {ge:Ev->R D}
theorem ux {n:Nat} (i:Nat) {py spos:Pos} (hN:X.N.Nodup) (ok:CompOkT X scope n N' ix) (hcalm:X.calm=true) (hg:∀ C s₂ H₂ fp,PGF (bT X N' scope C s₂ H₂ fp) tgt asg) (hown:∀ d ρ ρ',asg d ρ=.ok ρ'->(NoOwn ρ)->NoOwn ρ') (hi:QIF X tgt iter gi) (he:∀ C s₂ H₂ fp,QF (bT X N' scope C s₂ H₂ fp) elt ge) (ht:∀ C s₂ H₂ fp,PTs (bT X N' scope C s₂ H₂ fp) ifs gt)
 (hni:X.N[i]?=some y:=by rfl) (hy:X.env.scope.names.lookup y=some .local:=by rfl) (hs:∀ x,foldedSetIterable iter X.env x=pure x:=by intro _;rfl)
 (hsw:swapsWith (.ListComp elt [⟨tgt,iter,ifs,0⟩] scope pos) (some (.Name y py)) spos.line X.env=pure true:=by rfl)
 {D:Ends} (I:Inv X pins σ H s) (sE:StE X.K G H σ ρ) (hq:(pi n asg gi ix gt ge ρ).post (yw X.K G H fun v H1=>D.nx (σ.set i (some v)) H1) (Exx X σ G H)) :
  wpAny (model X.prog X.w) X.A (exec (.Assign [.Name y py] (.ListComp elt [⟨tgt,iter,ifs,0⟩] scope pos) spos) X.env) (SP X pins D) X.xe s:=by
 rw [exec_Assign_Name_used _ _ _ _ hsw]
 refine wpAny_bind (wpAny_standAt (wpAny_bind ?_))
 show wpAny _ X.A (do let _ <- comprehension (.ListComp elt [⟨tgt,iter,ifs,0⟩] scope pos) scope X.env _ (newList []) false (eval iter X.env) (some (assign (.Name y py) X.env))) _ _ s
 refine wpAny_bind (wpAny_mono (wpAny_comprehension_free (use:=some (assign (.Name y py) X.env)) (Q:=fun _ s'=>SP X pins D .next s') rfl hs (jv fun z hz hz2=>I.ok.has z.1 (.inl (ok.fr z hz hz2))) ok.kind ok.names ?_) (fun _ s' hq=>wpAny_pure (wpAny_pure hq)) fun _ _ e=>e)
 have t:tG X (fun G J items=>ItOk X.K G J items) gi σ H (fun J H1=>∃ G1 items,Up G H G1 H1/\StE X.K G1 H1 σ ρ/\ItOk X.K G1 J items/\(gC asg gt ge items (gG n ix ρ)>>=fun ds=>if ds.length<=sizeLine then R.ok ds else .no).post (yw X.K G H fun v H1=>D.nx (σ.set i (some v)) H1) (Exx X σ G H)):=by
  refine ⟨G,ρ,sE,?_⟩
  unfold pi at hq
  cases e:gi ρ with
  | ok items=>rw [e] at hq;exact fun J G1 H1 u r=>⟨G1,items,u,sE.up u,r,hq⟩
  | ex C=>rw [e] at hq;exact hq
  | no=>rw [e] at hq;exact hq
 refine thn (hi pins s σ H _ I t) fun v s1 h1=>thn h1 fun itv s2 h2=>?_
 obtain ⟨it,fp,tn,J,H2,e,I2,T,st2,f2,G2,items,u2,sE2,iok,h2⟩:=h2
 subst e
 have h2':(gC asg gt ge items (gG n ix ρ)>>=fun ds=>if ds.length<=sizeLine then R.ok ds else .no).post (yw X.K G2 H2 fun v H1=>D.nx (σ.set i (some v)) H1) (Exx X σ G2 H2):=
  h2.mono (fun ds q l vs G' H' u hl r=>q l vs G' H' (u2.trans u) hl r) fun C q=>q.up u2
 refine ju (iter:=iter) (pos:=pos) (RR:=fun acc C=>compPost (model X.prog X.w) X.A X.xe (some (assign (.Name y py) X.env)) (fun _ s'=>SP X pins D .next s') acc C) ok hcalm hg hown he ht I2 T st2 f2 sE2 iok h2' ?_
 intro Dd C s' m vs G' H' up hd hCD _ q hm hos hb hC hCl un hok
 have I3:Inv X pins σ (upd H' Dd (.lst vs)) s':=I2.call' (ch:=fp) hos un hok hb fun b hb'=>by
  obtain ⟨f0,f1,f2',f3,f4,f5⟩:=f2 b hb'
  exact ⟨f3,f1,f4,f5⟩
 have lc:X.env.locals≠C:=Nat.ne_of_lt (Nat.lt_of_lt_of_le I2.lt hCl)
 have cc:∀ z c,X.env.cells.lookup z=some c->c≠C:=fun z c e=>by
  obtain ⟨v,q⟩:=I2.cell z c e
  exact Nat.ne_of_lt (Nat.lt_of_lt_of_le q.lt hCl)
 show wpAny (model X.prog X.w) X.A (assign (.Name y py) X.env (.ref Dd)) _ X.xe s'
 refine wpAny_assign_Name (sF I3 hN hni (.inl hy) (v:=.ref Dd) rfl (fun s'' I4 ⟨a,hsb,ha⟩=>?_) (.inr hy))
 have na:C≠a:=by
  rcases ha with rfl|ha
  ·exact lc.symm
  ·exact (cc _ _ ha).symm
 refine ⟨m,hm.sameBut hsb na,fun h' hs'=>?_⟩
 have I5:=I4.call' (s':={ s'' with heap:=h' }) (H':=upd H' Dd (.lst vs)) (ch:=[C]) rfl (Un.but hs') (I4.hok.sameBut (fun b o hbc e=>(hs'.2 b hbc).trans e) (by rw [aU hCD];exact hC)) I4.bare fun b hb'=>by
  rw [List.mem_singleton.1 hb']
  exact ⟨.inr (Nat.le_trans I2.sz hCl),lc.symm,cc,fun p hp z=>Nat.lt_irrefl _ (Nat.lt_of_lt_of_le (z ▸ Heap.lt_size (I2.pin p hp).1) hCl)⟩
 exact ⟨_,_,I5,q⟩
theorem xV {n:Nat} (i:Nat) {py spos:Pos} (hN:X.N.Nodup) (ok:CompOkT X scope n N' ix) (hcalm:X.calm=true) (hg:∀ C s₂ H₂ fp,PGF (bT X N' scope C s₂ H₂ fp) tgt asg) (hown:∀ d ρ ρ',asg d ρ=.ok ρ'->(NoOwn ρ)->NoOwn ρ') (hi:QIF X tgt iter gi) (he:∀ C s₂ H₂ fp,QF (bT X N' scope C s₂ H₂ fp) elt ge) (ht:∀ C s₂ H₂ fp,PTs (bT X N' scope C s₂ H₂ fp) ifs gt)
 (hni:X.N[i]?=some y:=by rfl) (hy:X.env.scope.names.lookup y=some .local:=by rfl) (hs:∀ x,foldedSetIterable iter X.env x=pure x:=by intro _;rfl)
 (hsw:swapsWith (.ListComp elt [⟨tgt,iter,ifs,0⟩] scope pos) (some (.Name y py)) spos.line X.env=pure true:=by rfl) :
  QSF X (.Assign [.Name y py] (.ListComp elt [⟨tgt,iter,ifs,0⟩] scope pos) spos) (BD i (pi n asg gi ix gt ge)):=fun G₀ H₀ pins s σ H D I h=>by
 obtain ⟨G,ρ,sr,h⟩:=h
 have h:lj X G₀ H₀ D ((pi n asg gi ix gt ge ρ).out ρ fun ds=>.nx (ρ.set i (some (.own ds)))):=h
 refine ux i hN ok hcalm hg hown hi he ht hni hy hs hsw I sr.e ?_
 cases q:pi n asg gi ix gt ge ρ with
 | ok ds=>rw [q] at h;exact fun l vs G' H' u hl r=>h _ G' _ ((sr.ups u).setOwn hl r i)
 | ex C=>rw [q] at h;exact Exx.of sr h
 | no=>rw [q] at h;exact h
end
noncomputable def JR (i:Nat) (ga:Ev->R D):Ev->O:=fun ρ=>(ownAt ρ i).out ρ fun ds=>(ga ρ).out ρ fun d=>(asL d).out ρ fun es=>if ds.length+es.length<=sizeLine then .nx (ρ.set i (some (.own (ds++es)))) else .no
noncomputable def EX (i:Nat) (ga:Ev->R D):Ev->O:=fun ρ=>(ownAt ρ i).out ρ fun ds=>(ga ρ).out ρ fun d=>if ds.length<sizeLine then .nx (ρ.set i (some (.own (ds++[d])))) else .no
noncomputable def Mz (i j:Nat) (gl:Ev->R (List D)):Ev->O:=fun ρ=>(gl ρ).out ρ fun ds=>(sZ [i,j] ds ρ).out ρ .nx
structure Errs (K:PySem.W.Frag) (mg:Str->Option Value) (rs:List Addr) (ts:List (Str×Addr)):Prop where
 na:∀ t∈ts,mg t.1=some (.ref t.2)
 ec:∀ r∈rs,ExcCls K r
 kit:∀ r∈rs,∀ t∈ts,PySem.W.kitOne K (.ref r) (.ref t.2)=some (r==t.2)
 ve:∀ r∈rs,PySem.W.kitOne K (.ref r) (.type "ValueError")=some true
 le:∃ L,mg "LineError"=some (.ref L)/\∀ r∈rs,PySem.W.exmOne K (.ref r) (.ref L)=some true
noncomputable def fl:Nat->D->Bool
 | 0,_=>false
 | n+1,.tup xs=>xs.all (fl n)
 | _+1,.lst _ _=>false
 | _+1,.exc _=>false
 | _+1,.dct _ _=>false
 | _+1,_=>true
theorem zm {K:PySem.W.Frag} {G G2:Hp} {n:Nat} (ih:∀ v d,fl n d=true->Rep K G v d->Rep K G2 v d):∀ {vs:List V} {ds:List D},ds.all (fl n)=true->Reps K G vs ds->Reps K G2 vs ds
 | _,_,_,.nil=>.nil
 | _,_,h,.cons r t=>by
  rw [List.all_cons,Bool.and_eq_true] at h
  exact .cons (ih _ _ h.1 r) (zm ih h.2 t)
theorem A0 {K:PySem.W.Frag} {G G2:Hp} (h:∀ a o,G a=some o->(∀ vs,o≠HO.lst vs)->G2 a=some o):∀ (n:Nat) (v:V) (d:D),fl n d=true->Rep K G v d->Rep K G2 v d
 | 0,_,_,hf,_=>by simp [fl] at hf
 | n+1,v,d,hf,r=>by
  cases r with
  | non=>exact .non
  | bl b=>exact .bl b
  | int i=>exact .int i
  | str x hx=>exact .str x hx
  | tup hs t=>
   refine .tup ?_ (zm (fun v d=>A0 h n v d) hf t)
   rcases hs with (q|⟨o,q⟩)|q
   ·exact .inl (.inl (h _ _ q fun vs z=>by cases z))
   ·exact .inl (.inr ⟨o,h _ _ q fun vs z=>by cases z⟩)
   ·exact .inr q
  | lst hs t=>simp [fl] at hf
  | fls hs t=>simp [fl] at hf
  | exc hs=>simp [fl] at hf
  | dct _ _ _=>simp [fl] at hf
theorem StR.peek {K:PySem.W.Frag} {H₀:Hp} (s:StR K G₀ H₀ G H σ ρ) (i:Nat):∃ G1,StE K G1 H σ (L2.frz i ρ)/\
  ∀ G' H',Up G1 H G' H'->∃ G2,Up G H G2 H'/\∀ a o,G' a=some o->(∀ vs,o≠HO.lst vs)->G2 a=some o:=by
 obtain ⟨G1,sr,e|⟨l,vs,hl,e⟩⟩:=s.frzTo i
 ·subst e
  exact ⟨G1,sr.e,fun G' H' u=>⟨G',u,fun a o q _=>q⟩⟩
 ·subst e
  refine ⟨_,sr.e,fun G' H' u=>⟨fun a=>if a=l then none else G' a,⟨fun a o q=>?_,fun a o q=>?_,u.hh,fun a o q=>?_⟩,fun a o q hq=>?_⟩⟩
  ·have q:(if a=l then none else G' a)=some o:=q
   split at q
   ·cases q
   ·exact u.sub a o q
  ·have ne:a≠l:=fun z=>by subst z;rw [hl] at q;cases q
   show (if a=l then none else G' a)=some o
   rw [if_neg ne]
   exact u.gg a o (by rw [aU ne];exact q)
  ·have q:(if a=l then none else G' a)=some o:=q
   split at q
   ·cases q
   ·rename_i ne
    rcases u.fr a o q with z|z
    ·rw [aU ne] at z;exact .inl z
    ·exact .inr z
  ·have ne:a≠l:=fun z=>by
    subst z
    have:=u.gg a _ bc
    rw [q] at this
    cases this
    exact hq vs rfl
   show (if a=l then none else G' a)=some o
   rw [if_neg ne];exact q
section
variable {X:Cx} {st:Stmt} {cJ body a b:List Stmt} {e c tg:Expr} {g g1 g2:Ev->O} {ga gb:Ev->R D} {gt:Ev->R Bool} {gl:Ev->R (List D)} {pos:Pos}
noncomputable def J8 (i:Nat) (gt:Ev->R Bool) (g1 g2:Ev->O):Ev->O:=fun ρ=>(dH (gt (frz i ρ))).out ρ fun k=>if k=true then g1 ρ else g2 ρ
noncomputable def C4 (j i:Nat) (ga:Ev->R D):Ev->O:=fun ρ=>(dH (ga (frz j ρ))).out ρ fun d=>if fl 10 d=true then .nx (ρ.set i (some (.val d))) else .no
noncomputable def Lk (j i:Nat) (ga:Ev->R D):Ev->O:=fun ρ=>(ownAt ρ i).out ρ fun ds=>(dH (ga (frz j ρ))).out ρ fun d=>if ds.length<sizeLine/\fl 10 d=true then .nx (ρ.set i (some (.own (ds++[d])))) else .no
noncomputable def CN (i:Nat) (gk ga:Ev->R D):Ev->O:=fun ρ=>(ownAt ρ i).out ρ fun ds=>(dH (ga (frz i ρ))).out ρ fun d=>(dH (gk (frz i ρ)>>=asI)).out ρ fun k=>match ixN ds.length k with
 | some n=>if fl 10 d=true then .nx (ρ.set i (some (.own (ds.set n d)))) else .no
 | none=>.no
noncomputable def MY:D->R (List D)
 | .lst _ xs=>.ok xs
 | .tup xs=>.ok xs
 | _=>.no
def EV:List D->R (List D)
 | [d]=>MY d
 | _=>.no
def FA (gl:Ev->R (List D)):Ev->R (List D):=fun ρ=>gl ρ>>=EV
end
end L2
namespace L2
open PySem PySem.Spec PyProof.Rows PySem.W
noncomputable def dZ:List D->Option (List (List Nat))
 | []=>some []
 | .str x::ds=>(dZ ds).map (x::·)
 | _=>none
noncomputable def qp:List D->Option (List Int)
 | []=>some []
 | .int i::ds=>(qp ds).map (i::·)
 | _=>none
theorem Reps.nums {K:PySem.W.Frag}:∀ {vs:List V} {ds:List D} {ns:List Int},Reps K G vs ds->qp ds=some ns->vs=ns.map V.int
 | _,_,_,.nil,h=>by cases h;rfl
 | _,_,ns,.cons (d:=d) r t,h=>by
  cases d <;> first|(cases h;done)|skip
  rename_i x
  rename_i ds'
  cases q:qp ds' with
  | none=>simp [qp,q] at h
  | some zs=>
   simp [qp,q] at h
   subst h
   rw [Reps.nums t q,r.int_inv];rfl
end L2
namespace L2
open PySem PySem.Spec PyProof.Rows
open Sem (wp)
open AutoSeq1 (wpAny_loadPart')
theorem Il:isSubtype (.type "enumerate") (.type "enumerate")=pure true:=PySem.sub_enumerate
theorem EZ (l:Addr) (its:Array Value) (n:Nat) (dct:Option Addr) (sl:Array (Option Value)) :
  Meets (Builtin.«enumerate.__new__» ⟨[.type "enumerate",.ref l],[]⟩) (fun _ Rr s=>s.heap.get? l=some { cls:=.type "tuple",dict:=dct,data:=.seq its n,slots:=sl }/\
   Rr (.ok (.ret (.ref (s.heap.push { cls:=.type "tuple_iterator",data:=.fields #[.ref l,.int 0 0] }).objs.size)))
    { s with heap:=(s.heap.push { cls:=.type "tuple_iterator",data:=.fields #[.ref l,.int 0 0] }).push { cls:=.type "enumerate",data:=.fields #[.none,.bool false,.ref s.heap.objs.size,rawInt 0,.none,.none] } }):=
 .of_wp fun prog w A Rr s h=>by
  obtain ⟨hp,g,d,tk,os⟩:=s;obtain ⟨hl,h⟩:=h
  have hsub:=Il
  have hT:Heap.IsTuple (Shared.heap ⟨hp,g,d,tk,os⟩) l its:=⟨_,hl,rfl,n,rfl⟩
  wp_walk using wpAny_loadPart' hl
  refine wpAny_stack_any fun st=>wpAny_pure ?_
  split
  ·rename_i c _ _ _ _ _
   cases (c==Value.type "enumerate") <;> (wp_walk using wpAny_loadPart' hl,wpAny_pyIter_tuple hT;exact ⟨_,rfl,h⟩)
  ·wp_walk using wpAny_loadPart' hl,wpAny_pyIter_tuple hT
   exact ⟨_,rfl,h⟩
section
variable {prog:Program} {w:World} {A:Around} {E:Value->Shared->Prop} {s:Shared}
theorem Fy {itT:String} {l:Addr} {c:Int} {Q:Value->Shared->Prop}
 (h:∀ h',IsEnum h' (s.heap.objs.size+1) s.heap.objs.size c .none->h'.get? s.heap.objs.size=some { cls:=.type itT,data:=.fields #[.ref l,.int 0 0] }->h'.objs.size=s.heap.objs.size+2->
 (∀ b o,s.heap.get? b=some o->h'.get? b=some o)->Q (.ref (s.heap.objs.size+1)) { s with heap:=h' }) :
  wants (fun obj s₁=>s₁.TypeIs obj "enumerate"/\Q obj s₁) E (.ok (.ret (.ref (s.heap.push { cls:=.type itT,data:=.fields #[.ref l,.int 0 0] }).objs.size)))
   { s with heap:=(s.heap.push { cls:=.type itT,data:=.fields #[.ref l,.int 0 0] }).push { cls:=.type "enumerate",data:=.fields #[.none,.bool false,.ref s.heap.objs.size,rawInt c,.none,.none] } }:=by
 have hz:(s.heap.push { cls:=.type itT,data:=.fields #[.ref l,.int 0 0] }).objs.size=s.heap.objs.size+1:=Heap.size_push ..
 have he:IsEnum ((s.heap.push { cls:=.type itT,data:=.fields #[.ref l,.int 0 0] }).push { cls:=.type "enumerate",data:=.fields #[.none,.bool false,.ref s.heap.objs.size,rawInt c,.none,.none] }) (s.heap.objs.size+1) s.heap.objs.size c .none:=by
  have q:=Heap.get?_push_size (s.heap.push { cls:=.type itT,data:=.fields #[.ref l,.int 0 0] }) (o:={ cls:=.type "enumerate",data:=.fields #[.none,.bool false,.ref s.heap.objs.size,rawInt c,.none,.none] }) rfl
  rw [hz] at q
  exact q
 show _/\_
 rw [hz]
 exact ⟨⟨_,he,rfl⟩,h _ he (Heap.get?_push_of_some _ (Heap.get?_push_size _ rfl)) (by rw [Heap.size_push,hz]) fun b o x=>Heap.get?_push_of_some _ (Heap.get?_push_of_some _ x)⟩
theorem Dh {l:Addr} {its:Array Value} {n:Nat} {dct:Option Addr} {sl:Array (Option Value)} {Q:Value->Shared->Prop}
 (hl:s.heap.get? l=some { cls:=.type "tuple",dict:=dct,data:=.seq its n,slots:=sl })
 (h:∀ h',IsEnum h' (s.heap.objs.size+1) s.heap.objs.size 0 .none->h'.get? s.heap.objs.size=some { cls:=.type "tuple_iterator",data:=.fields #[.ref l,.int 0 0] }->h'.objs.size=s.heap.objs.size+2->
 (∀ b o,s.heap.get? b=some o->h'.get? b=some o)->Q (.ref (s.heap.objs.size+1)) { s with heap:=h' }) :
  wpAny (model prog w) A (call (.type "enumerate") [.ref l]) Q E s:=
 callType_new F.called_enumerate (by decide) (F.typeCall_enumerate_1 _) (F.newCall_enumerate_1 _) (fun obj=>F.args_object_init_2 obj _) F.entry_enumerate_new (EZ l its n dct sl) ⟨hl,Fy h⟩
theorem Fh {t:Addr} {its:Array Value} {x:Value} {Q:Value->Shared->Prop} (hit:s.heap.IsTupleIter it t i) (ht:s.heap.IsTuple t its) (hx:its[i]?=some x)
 (hQ:∀ h',h'.IsTupleIter it t (i+1)->Heap.SameBut it s.heap h'->Q x { s with heap:=h' }):wpAny (model prog w) A (Builtin.SmallTypes.nextOf (.ref it)) Q E s:=by
 obtain ⟨ob,h1,h2,h3⟩:=id hit
 obtain ⟨ot,k1,_,m,k2⟩:=ht
 unfold Builtin.SmallTypes.nextOf
 refine wpAny_bind (wpAny_callSpecial?_slot (name:=Str.ofString "__next__") hit.typeIs F.slot_tuple_iterator_next (wpAny_call_entry F.slot_tuple_iterator_next hit.typeIs F.entry_tuple_iterator_next ?_ (F.args_tuple_iterator_next_1 _)))
 refine wpAny_bind (m:=field (.ref it) 0) (wpAny_field h1 h3 (x:=.ref t) rfl ?_)
 show wpAny _ _ (if (Value.ref t==Value.none)=true then _ else _) _ _ s
 rw [if_neg (by exact Bool.false_ne_true)]
 refine wpAny_bind (m:=field (.ref it) 1) (wpAny_field h1 h3 (x:=.int i 0) rfl (wpAny_bind (m:=seqItems? (.ref t)) (wpAny_seqItems k1 k2 ?_)))
 simp only [Int.toNat_natCast,hx]
 refine wpAny_bind (wpAny_setField h1 h3 (by simp) (wpAny_pure ⟨x,rfl,wpAny_pure (hQ _ ⟨_,Heap.get?_update_self _ h1 (Obj.isFreed_of_fields (Obj.data_mapFields h3 _)),(Obj.cls_mapFields ..).trans h2,?_⟩ (Heap.SameBut.update ..))⟩))
 rw [Obj.data_mapFields h3];simp [rawInt]
theorem DS {t:Addr} {its:Array Value} {Q:Value->Shared->Prop} (hh:A.handled=none) (hit:s.heap.IsTupleIter it t i) (ht:s.heap.IsTuple t its) (hx:its[i]?=none)
 (hE:∀ h' e,Heap.ExtBut it s.heap h'->(∃ o,h'.get? e=some o/\o.cls=.type "StopIteration")->E (.ref e) { s with heap:=h' }):wpAny (model prog w) A (Builtin.SmallTypes.nextOf (.ref it)) Q E s:=by
 obtain ⟨ob,h1,h2,h3⟩:=id hit
 obtain ⟨ot,k1,_,m,k2⟩:=ht
 unfold Builtin.SmallTypes.nextOf
 refine wpAny_bind (wpAny_callSpecial?_slot (name:=Str.ofString "__next__") hit.typeIs F.slot_tuple_iterator_next (wpAny_call_entry F.slot_tuple_iterator_next hit.typeIs F.entry_tuple_iterator_next ?_ (F.args_tuple_iterator_next_1 _)))
 refine wpAny_bind (m:=field (.ref it) 0) (wpAny_field h1 h3 (x:=.ref t) rfl ?_)
 show wpAny _ _ (if (Value.ref t==Value.none)=true then _ else _) _ _ s
 rw [if_neg (by exact Bool.false_ne_true)]
 refine wpAny_bind (m:=field (.ref it) 1) (wpAny_field h1 h3 (x:=.int i 0) rfl (wpAny_bind (m:=seqItems? (.ref t)) (wpAny_seqItems k1 k2 ?_)))
 simp only [Int.toNat_natCast,hx]
 refine wpAny_bind (wpAny_rule (wpAny_bind (wpAny_setField h1 h3 (by simp) (wpAny_bind (m:=newExc (.type "StopIteration") []) ?_))))
 simp only [newExc,newTuple]
 refine wpAny_bind (wpAny_newObj_type (wpAny_bind (m:=firstArgMember _ _) (wpAny_of_eq (a:=Value.none) (by first|rfl|(simp only [firstArgMember];rfl)) (wpAny_newObj_type ?_ (by size_fits)))) (by size_fits))
 simp only [raiseNew]
 refine wpAny_bind (wpAny_handled ?_)
 first|rw [show A.in1.handled=none from hh]|rw [hh]
 exact wpAny_bind (wpAny_pure (wpAny_throw (hE _ _ (((Heap.SameBut.update ..).extBut.push _).push _) ⟨_,Heap.get?_push_size _ rfl,rfl⟩)))
end
theorem Ij {prog:Program} {w:World} {A:Around} (hh:A.handled=none) (it l:Addr) (hne:l≠it) (its:Array Value) (c:Nat) :
  Draws prog w A it [it,l] (c+its.size) (fun i v=>∃ k,i=c+k/\its[k]?=some v) (fun i h=>∃ k,i=c+k/\h.IsTupleIter it l k/\h.IsTuple l its) where
 live:=fun _ _ ⟨_,_,st,_⟩=>let ⟨o,ho,_⟩:=st;⟨o,ho⟩
 frame:=fun _ _ _ ⟨k,e,st,t⟩ hk=>⟨k,e,st.at fun o e=>hk it (by simp) o e,let ⟨o,ho,r⟩:=t;⟨o,hk l (by simp) o ho,r⟩⟩
 item:=fun i s Q E hi ⟨k,e,st,t⟩ hQ=>by
  have hk:k<its.size:=by omega
  refine Fh st t (x:=its[k]) (by simp [hk]) fun h' st' sb=>hQ _ h' s.toks ⟨k,e,by simp [hk]⟩ ⟨k+1,by omega,st',?_⟩ sb
  obtain ⟨o,ho,r⟩:=t
  exact ⟨o,(sb.2 l hne).trans ho,r⟩
 done:=fun s Q E ⟨k,e,st,t⟩ hE=>DS hh st t (Array.getElem?_eq_none (by omega)) hE
theorem Jd {prog:Program} {w:World} {A:Around} (hh:A.handled=none) (it l:Addr) (hne:l≠it) (its:Array Value) (c:Nat) :
  Draws prog w A it [it,l] (c+its.size) (fun i v=>∃ k,i=c+k/\its[k]?=some v) (fun i h=>∃ k,i=c+k/\h.IsListIter it l k/\h.IsList l its) where
 live:=fun _ _ ⟨_,_,st,_⟩=>let ⟨o,ho,_⟩:=st;⟨o,ho⟩
 frame:=fun _ _ _ ⟨k,e,st,t⟩ hk=>⟨k,e,st.at fun o e=>hk it (by simp) o e,t.at fun o e=>hk l (by simp) o e⟩
 item:=fun i s Q E hi ⟨k,e,st,t⟩ hQ=>by
  have hk:k<its.size:=by omega
  exact wpAny_nextOf_list_item st t (x:=its[k]) (by simp [hk]) fun h' st' sb=>hQ _ h' s.toks ⟨k,e,by simp [hk]⟩ ⟨k+1,by omega,st',t.extBut sb.extBut hne⟩ sb
 done:=fun s Q E ⟨k,e,st,t⟩ hE=>wpAny_nextOf_list_end hh st t (Array.getElem?_eq_none (by omega)) hE
theorem Inv.turned2 {σ:List (Option V)} {t':Nat} {e:Addr} (I:Inv X pins σ H s) (k:∀ b o,b≠it->b≠e->s.heap.get? b=some o->h'.get? b=some o) (f1:pe X pins H it) (f2:pe X pins H e) :
  Inv X pins σ H { s with heap:=h',toks:=t' }:=by
 obtain ⟨a0,a1,a2,a3,a4,a5⟩:=f1
 obtain ⟨b0,b1,b2,b3,b4,b5⟩:=f2
 have n1:∀ b u,H b=some u->b≠it:=fun b u q z=>by rw [z,a0] at q;cases q
 have n2:∀ b u,H b=some u->b≠e:=fun b u q z=>by rw [z,b0] at q;cases q
 have kk:∀ b o,b ∉ [it,e]->s.heap.get? b=some o->h'.get? b=some o:=fun b o hb q=>k b o (fun z=>hb (by simp [z])) (fun z=>hb (by simp [z])) q
 refine I.step (g':=s.gens) (d':=s.drawn) (ch:=[it,e]) (fun b hb=>?_) (fun b o _ _ hc q _=>kk b o hc q) (fun b o _ _ hc q _=>⟨o.slots,kk b o hc q⟩) (fun _ _ _ _ n=>n) (fun b o hc q=>⟨o,kk b o hc q⟩) (fun _ _ q=>q) (fun _ _ _ q=>q) (fun b ps q=>⟨#[],by rw [q];simp⟩) (fun m hm=>?_) (fun b u q=>?_) I.bare
 ·simp only [List.mem_cons,List.mem_nil_iff,or_false] at hb
  rcases hb with rfl|rfl
  ·exact ⟨a3,a1,a4,a5⟩
  ·exact ⟨b3,b1,b4,b5⟩
 ·obtain ⟨o,es,ep,ho,r⟩:=hm
  exact ⟨o,es,ep,k _ o (Ne.symm a1) (Ne.symm b1) ho,r⟩
 ·refine (I.hok b u q).stay (fun c v hc q'=>k c v ?_ ?_ q') (fun _ q'=>q') fun _ _ q'=>q'
  ·rcases hc with z|z
   ·rw [z];exact n1 b u q
   ·exact n1 c _ z
  ·rcases hc with z|z
   ·rw [z];exact n2 b u q
   ·exact n2 c _ z
noncomputable def Ite (sq:Hp->List V->Prop) (c:Nat):It:=⟨fun i H=>∃ xs x,sq H xs/\xs[i]?=some x,
 fun i H v H'=>∃ p x,v=.ref p/\H p=none/\H'=upd H p (.tup [.int ((c+i:Nat):Int),x])/\∀ xs,sq H xs->xs[i]?=some x,fun i H=>∃ xs,sq H xs/\xs.length<=i⟩
section
variable {P:Program} {w:World} {K:PySem.W.Frag} {elts:List Expr} {kt:Nat} {tp:Pos}
structure Inner (P:Program) (w:World) (K:PySem.W.Frag) (sq:Hp->List V->Prop) (a it:Addr) (iter:Nat->Heap->Prop):Prop where
 obj:∀ i h,iter i h->∃ o,h.get? it=some o/\∀ v,o.data ≠ .cell v
 at_:∀ i h h',iter i h->(∀ o,h.get? it=some o->h'.get? it=some o)->iter i h'
 inj:∀ (X:Cx),X.K=K->∀ (pins:List (Addr×Obj)) (σ:St) (H:Hp) (s:Shared) xs ys,Inv X pins σ H s->sq H xs->sq H ys->xs=ys
 dr:∀ (X:Cx),X.prog=P->X.w=w->X.K=K->X.calm=true->∀ (pins:List (Addr×Obj)) (σ:St) (H:Hp) (s:Shared) (xs:List V) (c:Nat),Inv X pins σ H s->sq H xs->(∀ i,iter i s.heap->a≠it)->
  ∃ its:List Value,Vals xs its/\xs.length<=sizeLine/\∃ (Pd:Nat->Value->Prop) (St:Nat->Heap->Prop),Draws P w X.A.in1 it [it,a] (c+its.length) Pd St/\(∀ k v,Pd (c+k) v->its[k]?=some v)/\
   (∀ k h,iter k h->(∀ o,s.heap.get? a=some o->h.get? a=some o)->a≠it->St (c+k) h)/\∀ k h,St (c+k) h->iter k h
 fin:∀ (X:Cx),X.prog=P->X.w=w->X.K=K->X.calm=true->∀ (pins:List (Addr×Obj)) (σ:St) (H:Hp) (s:Shared) (xs:List V) (i:Nat) (Q:Value->Shared->Prop) (E:Value->Shared->Prop),Inv X pins σ H s->sq H xs->xs.length<=i->iter i s.heap->
  (∀ h' x,Heap.ExtBut it s.heap h'->(∃ o,h'.get? x=some o/\o.cls=.type "StopIteration")->E (.ref x) { s with heap:=h' })->wpAny (model P w) X.A.in1 (Builtin.SmallTypes.nextOf (.ref it)) Q E s
theorem tT {ob:Obj} (hb:b<h.objs.size) (q:(h.push ob).get? b=some o):h.get? b=some o:=by
 unfold Heap.get? Heap.push at *
 simpa [Array.getElem?_push,Nat.ne_of_lt hb] using q
theorem IB {prog:Program} {A:Around} {e:Addr} {c:Int} {old:Value} {Q:Option Value->Shared->Prop} (he:IsEnum s.heap e it c old)
 (hn:∀ (Q':Value->Shared->Prop) (E':Value->Shared->Prop),(∀ h' x,Heap.ExtBut it s.heap h'->(∃ o,h'.get? x=some o/\o.cls=.type "StopIteration")->E' (.ref x) { s with heap:=h' })->wpAny (model prog w) A.in1 (Builtin.SmallTypes.nextOf (.ref it)) Q' E' s)
 (hQ:∀ h',Heap.ExtBut it s.heap h'->Q none { s with heap:=h' }):wpAny (model prog w) A (pyNext (.ref e)) Q E s:=by
 have ht:s.TypeIs (.ref e) "enumerate":=⟨_,he,rfl⟩
 unfold pyNext
 refine wpAny_bind (wpAny_attempt (wpAny_callSpecial?_slot (name:=Str.ofString "__next__") ht F.slot_enumerate_next (wpAny_call_entry F.slot_enumerate_next ht F.entry_enumerate_next ?_ (F.args_enumerate_next_1 _))))
 refine wpAny_bind (m:=field (.ref e) 2) (wpAny_field he rfl (x:=.ref it) rfl (wpAny_bind (hn _ _ fun h' x hb hx=>?_)))
 obtain ⟨o,ho,hc⟩:=hx
 exact wpAny_bind (wpAny_isInstance (T:="StopIteration") (b:=true) ⟨o,ho,hc⟩ isSubtype_stop (wpAny_pure (hQ _ hb)))
theorem Bd {e:Addr} {iter:Nat->Heap->Prop} (N:Inner P w K sq a it iter) (c:Nat) (hei:e≠it) (hea:e≠a) (hai:a≠it) :
  Turn P w K (.Tuple elts kt tp) (Ite sq c) [e,it] e (fun i h=>(∃ old,IsEnum h e it ((c+i:Nat):Int) old)/\iter i h) where
 mem:=by simp
 obj:=fun i h st b hb=>by
  simp only [List.mem_cons,List.mem_nil_iff,or_false] at hb
  rcases hb with rfl|rfl
  ·obtain ⟨old,q⟩:=st.1
   exact ⟨_,q,fun v z=>by cases z⟩
  ·exact N.obj i h st.2
 keep:=fun i h h' st k=>⟨st.1.imp fun old q=>k e (by simp) _ q,N.at_ i h h' st.2 fun o q=>k it (by simp) o q⟩
 item:=by
  intro X hP hw hK hc i pins s σ H E I hf st hg
  obtain ⟨xs,x,hq,hx⟩:=hg
  obtain ⟨⟨old,he⟩,hi⟩:=st
  obtain ⟨its,rv,hz,Pd,St,Dr,p1,p2,p3⟩:=N.dr X hP hw hK hc pins σ H s xs c I hq fun _ _=>hai
  obtain ⟨u,hu,ru⟩:=rv.get hx
  have hil:i<its.length:=(List.getElem?_eq_some_iff.mp hu).1
  have fe:=hf e (by simp)
  have fi:=hf it (by simp)
  subst hP hw
  refine wpAny_pyNext_enum_itemD Dr he (p2 i _ hi (fun _ q=>q) hai) (by omega) hei (by simp only [List.mem_cons,List.mem_nil_iff,or_false,not_or];exact ⟨hei,hea⟩) fun y h1 tk hy ho hs1 ht hsz hk=>?_
  have ey:y=u:=by
   have q:=p1 i y hy
   rw [hu] at q
   exact (Option.some.inj q).symm
  subst ey
  refine ⟨_,rfl,wpAny_letOwnedTupleGo_enum ho fun h2 he2 sb=>?_⟩
  have helt:e<s.heap.objs.size:=Heap.lt_size he
  have hpe:s.heap.objs.size≠e:=Nat.ne_of_gt helt
  obtain ⟨oi,hoi,_⟩:=N.obj i _ hi
  have hpi:s.heap.objs.size≠it:=Nat.ne_of_gt (Heap.lt_size hoi)
  have hp:H s.heap.objs.size=none:=I.hok.fresh (Nat.le_refl _)
  have Ia:Inv X pins σ (upd H s.heap.objs.size (.tup [.int ((c+i:Nat):Int),x])) { s with heap:=s.heap.push { cls:=.type "tuple",data:=.seq #[.int ((c+i:Nat):Int) tk,y] } }:=by
   refine I.laid (t':=s.toks) (fun b o q=>Heap.get?_push_of_some _ q) (Nat.le_refl _) ?_
   exact ⟨by show 2<=sizeLine;decide,[.int ((c+i:Nat):Int) tk,y],.cons ⟨tk,rfl⟩ (.cons ru .nil),IsTup.new _ _⟩
  have fe':pe X pins (upd H s.heap.objs.size (.tup [.int ((c+i:Nat):Int),x])) e:=⟨by rw [aU (Ne.symm hpe)];exact fe.1,fe.2⟩
  have fi':pe X pins (upd H s.heap.objs.size (.tup [.int ((c+i:Nat):Int),x])) it:=⟨by rw [aU (Ne.symm hpi)];exact fi.1,fi.2⟩
  have ht2:h2.get? s.heap.objs.size=some { cls:=.type "tuple",data:=.seq #[.int ((c+i:Nat):Int) tk,y] }:=(sb.2 _ hpe).trans ht
  have Ib:Inv X pins σ (upd H s.heap.objs.size (.tup [.int ((c+i:Nat):Int),x])) { s with heap:=h2,toks:=tk+1 }:=by
   refine Ia.turned2 (t':=tk+1) (fun b o n1 n2 q=>?_) fi' fe'
   by_cases z:b=s.heap.objs.size
   ·subst z
    have q':=Heap.get?_push_size s.heap (o:={ cls:=.type "tuple",data:=.seq #[.int ((c+i:Nat):Int) tk,y] }) rfl
    have q:(s.heap.push { cls:=.type "tuple",data:=.seq #[.int ((c+i:Nat):Int) tk,y] }).get? s.heap.objs.size=some o:=q
    rw [q'] at q
    rw [ht2];exact q
   ·have q:(s.heap.push { cls:=.type "tuple",data:=.seq #[.int ((c+i:Nat):Int) tk,y] }).get? b=some o:=q
    have q2:s.heap.get? b=some o:=by
     rcases Nat.lt_or_ge b s.heap.objs.size with hb|hb
     ·exact tT hb q
     ·have hlt:b<(s.heap.push { cls:=.type "tuple",data:=.seq #[.int ((c+i:Nat):Int) tk,y] }).objs.size:=Heap.lt_size q
      rw [Heap.size_push] at hlt
      exact absurd (Nat.le_antisymm (Nat.le_of_lt_succ hlt) hb) z
    exact (sb.2 b n2).trans (hk b o n2 n1 q2)
  refine ⟨.ref s.heap.objs.size,_,Ib,rfl,⟨_,x,rfl,hp,rfl,fun ys hy'=>by rw [N.inj X hK pins σ H s ys xs I hy' hq];exact hx⟩,⟨⟨y,by have q:=he2;rw [show ((c+(i+1):Nat):Int)=((c+i:Nat):Int)+1 by omega];exact q⟩,?_⟩,fun b hb=>?_⟩
  ·refine N.at_ (i+1) h1 h2 (p3 (i+1) h1 hs1) fun o q=>(sb.2 it (Ne.symm hei)).trans q
  ·simp only [List.mem_cons,List.mem_nil_iff,or_false] at hb
   rcases hb with rfl|rfl
   ·exact fe'.1
   ·exact fi'.1
 done:=by
  intro X hP hw hK hc i pins s σ H E I hf st hg
  obtain ⟨xs,hq,hx⟩:=hg
  obtain ⟨⟨old,he⟩,hi⟩:=st
  have fi:=hf it (by simp)
  have fin:=N.fin X hP hw hK hc pins σ H s xs i
  subst hP hw
  exact IB he (fun Q' E' hE=>fin Q' E' I hq hx hi hE) fun h' hb=>⟨rfl,I.turned (t':=s.toks) (fun b o n q=>hb b o n q) fi.1 fi.2.1 fi.2.2.2.1 fi.2.2.2.2.1 fi.2.2.2.2.2⟩
 self:=fun A i s Q E st h=>by
  obtain ⟨⟨old,he⟩,_⟩:=st
  exact wpAny_pyIter_enum he h
theorem AB (a it:Addr):Inner P w K (fun H xs=>SqT K H a xs) a it (fun i h=>h.IsTupleIter it a i) where
 obj:=fun i h st=>let ⟨o,q,c,d⟩:=st;⟨o,q,fun v z=>by rw [d] at z;cases z⟩
 at_:=fun i h h' st k=>st.at k
 inj:=fun X hK pins σ H s xs ys I h1 h2=>by subst hK;exact I.tuple_inj h1 h2
 dr:=fun X hP hw hK hc pins σ H s xs c I hq hne=>by
  subst hP hw hK
  obtain ⟨its,rv,p,hz⟩:=I.tuple hq
  have hh:X.A.in1.handled=none:=I.ok.hd hc
  by_cases hai:a=it
  ·exact ⟨its,rv,hz,fun _ _=>False,fun _ _=>False,⟨fun _ _ z=>z.elim,fun _ _ _ z _=>z,fun _ _ _ _ _ z _=>z.elim,fun _ _ _ z _=>z.elim⟩,fun _ _ z=>z.elim,fun _ _ _ _ z=>absurd hai z,fun _ _ z=>z.elim⟩
  ·have Dq:=Ij (prog:=X.prog) (w:=X.w) hh it a hai its.toArray c
   rw [List.size_toArray] at Dq
   refine ⟨its,rv,hz,fun i v=>∃ k,i=c+k/\its.toArray[k]?=some v,fun i h=>∃ k,i=c+k/\h.IsTupleIter it a k/\h.IsTuple a its.toArray,Dq,fun k v q=>?_,fun k h st kp _=>⟨k,rfl,st,?_⟩,fun k h q=>?_⟩
   ·obtain ⟨k',e,q⟩:=q
    have:k=k':=by omega
    subst this;simpa using q
   ·obtain ⟨o,ho,r⟩:=p
    exact ⟨o,kp o ho,r⟩
   ·obtain ⟨k',e,st,_⟩:=q
    have:k=k':=by omega
    subst this;exact st
 fin:=fun X hP hw hK hc pins σ H s xs i Q E I hq hx st hE=>by
  subst hP hw hK
  obtain ⟨its,rv,p,hz⟩:=I.tuple hq
  have hl:=rv.length
  exact DS (I.ok.hd hc) st (show s.heap.IsTuple a its.toArray from p) (by simp;omega) hE
theorem sh (a it:Addr):Inner P w K (fun H xs=>SqL K H a xs) a it (fun i h=>h.IsListIter it a i) where
 obj:=fun i h st=>let ⟨o,q,c,d⟩:=st;⟨o,q,fun v z=>by rw [d] at z;cases z⟩
 at_:=fun i h h' st k=>st.at k
 inj:=fun X hK pins σ H s xs ys I h1 h2=>by subst hK;exact I.list_inj h1 h2
 dr:=fun X hP hw hK hc pins σ H s xs c I hq hne=>by
  subst hP hw hK
  obtain ⟨its,rv,p,hz⟩:=I.list hq
  have hh:X.A.in1.handled=none:=I.ok.hd hc
  by_cases hai:a=it
  ·exact ⟨its,rv,hz,fun _ _=>False,fun _ _=>False,⟨fun _ _ z=>z.elim,fun _ _ _ z _=>z,fun _ _ _ _ _ z _=>z.elim,fun _ _ _ z _=>z.elim⟩,fun _ _ z=>z.elim,fun _ _ _ _ z=>absurd hai z,fun _ _ z=>z.elim⟩
  ·have Dq:=Jd (prog:=X.prog) (w:=X.w) hh it a hai its.toArray c
   rw [List.size_toArray] at Dq
   refine ⟨its,rv,hz,fun i v=>∃ k,i=c+k/\its.toArray[k]?=some v,fun i h=>∃ k,i=c+k/\h.IsListIter it a k/\h.IsList a its.toArray,Dq,fun k v q=>?_,fun k h st kp _=>⟨k,rfl,st,?_⟩,fun k h q=>?_⟩
   ·obtain ⟨k',e,q⟩:=q
    have:k=k':=by omega
    subst this;simpa using q
   ·obtain ⟨o,ho,r⟩:=p.isList
    exact ⟨o,kp o ho,r⟩
   ·obtain ⟨k',e,st,_⟩:=q
    have:k=k':=by omega
    subst this;exact st
 fin:=fun X hP hw hK hc pins σ H s xs i Q E I hq hx st hE=>by
  subst hP hw hK
  obtain ⟨its,rv,p,hz⟩:=I.list hq
  have hl:=rv.length
  exact wpAny_nextOf_list_end (I.ok.hd hc) st p.isList (by simp;omega) hE
end
end L2
namespace L2
open PySem PySem.Spec PyProof.Rows
noncomputable def bH (c:Nat) (xs:List D):List D:=(List.range xs.length).map fun i=>.tup [.int ((c+i:Nat):Int),xs.getD i .non]
theorem tJ {c:Nat} {xs:List D} (h:(bH c xs)[i]?=some d):∃ x,xs[i]?=some x/\d=.tup [.int ((c+i:Nat):Int),x]:=by
 unfold bH at h
 rw [List.getElem?_map] at h
 by_cases hi:i<xs.length
 ·rw [List.getElem?_range hi] at h
  refine ⟨xs[i],List.getElem?_eq_getElem hi,?_⟩
  have e:xs.getD i .non=xs[i]:=by rw [List.getD_eq_getElem?_getD,List.getElem?_eq_getElem hi];rfl
  rw [<- e]
  exact (Option.some.inj h).symm
 ·rw [List.getElem?_eq_none (by simp;omega)] at h;cases h
theorem nU (c:Nat) (xs:List D):(bH c xs).length=xs.length:=by simp [bH]
theorem ItOk.enum {K:PySem.W.Frag} {c:Nat} (hs:∀ G1 H1,Same G G1->Same G1 H1->sq H1 vs) (r:Reps K G vs ds):ItOk K G (Ite sq c) (bH c ds):=by
 intro i G1 H1 s1 s2
 refine ⟨fun d e=>?_,fun hl=>⟨vs,hs G1 H1 s1 s2,by rw [nU] at hl;rw [r.length];exact hl⟩⟩
 obtain ⟨dx,ex,rfl⟩:=tJ e
 obtain ⟨v,ev,rv⟩:=r.get ex
 refine ⟨⟨vs,v,hs G1 H1 s1 s2,ev⟩,fun x H' y=>?_⟩
 obtain ⟨p,x',rfl,hp,rfl,y⟩:=y
 have z:=y vs (hs G1 H1 s1 s2)
 rw [ev] at z
 cases z
 refine ⟨upd G1 p (.tup [.int ((c+i:Nat):Int),v]),.new s2 hp,.tup (.of bc) (.cons (.int _) (.cons ((rv.mono s1).mono (.into (s2.free hp))) .nil))⟩
section
variable {X:Cx} {pins:List (Addr×Obj)} {σ:St} {H:Hp} {s:Shared} {elts:List Expr} {kt:Nat} {tp:Pos} {Rr:It->Hp->Prop}
theorem pZ {l:Addr} {iter:Nat->Heap->Prop} {c:Nat} (I:Inv X pins σ H s) (N:Inner X.prog X.w X.K sq l (s.heap.objs.size) iter) (hl:l<s.heap.objs.size) (he:IsEnum h' (s.heap.objs.size+1) s.heap.objs.size (c:Int) .none) (hi:iter 0 h')
 (hk:∀ b o,s.heap.get? b=some o->h'.get? b=some o) (q:Rr (Ite sq c) H):PIE X pins σ (.Tuple elts kt tp) Rr (.ref (s.heap.objs.size+1)) { s with heap:=h' }:=by
 have hlt:s.heap.objs.size<=s.heap.objs.size+1:=Nat.le_succ _
 refine ⟨_,_,_,_,H,rfl,I.kept (t':=s.toks) hk,Bd N c (Nat.ne_of_gt (Nat.lt_succ_self _)) (Nat.ne_of_gt (Nat.lt_succ_of_lt hl)) (Nat.ne_of_lt hl),⟨⟨_,he⟩,hi⟩,fun b hb=>?_,q⟩
 simp only [List.mem_cons,List.mem_nil_iff,or_false] at hb
 rcases hb with rfl|rfl
 ·exact I.fpOk hlt (I.hok.fresh hlt)
 ·exact I.fpOk (Nat.le_refl _) (I.hok.fresh (Nat.le_refl _))
theorem SqT.lt' (I:Inv X pins σ H s) (h:SqT X.K H a xs):a<s.heap.objs.size:=by
 obtain ⟨its,rv,⟨o,q,_⟩,_⟩:=I.tuple h
 exact Heap.lt_size q
theorem SqL.lt' (I:Inv X pins σ H s) (h:SqL X.K H a xs):a<s.heap.objs.size:=by
 obtain ⟨its,rv,p,_⟩:=I.list h
 obtain ⟨o,q,_⟩:=p.isList
 exact Heap.lt_size q
end
noncomputable def qG:D->R (List D)
 | .lst _ xs=>.ok (bH 0 xs)
 | .tup xs=>.ok (bH 0 xs)
 | _=>.no
noncomputable def DP:D->D->R (List D)
 | .tup xs,.int c=>if 0<=c/\c<1073741824 then .ok (bH c.toNat xs) else .no
 | _,_=>.no
section
variable {X:Cx} {a b:Expr} {ga gb:Ev->R D} {elts:List Expr} {kt:Nat} {p pos tp kp:Pos}
noncomputable def HI (ga gb:Ev->R D):Ev->R (List D):=fun ρ=>ga ρ>>=fun x=>gb ρ>>=fun c=>DP x c
end
noncomputable def GH:List D->Option D
 | [.lst _ ds]=>match qp ds with
  | some ns=>some (.int ns.sum)
  | none=>none
 | [.tup ds]=>match qp ds with
  | some ns=>some (.int ns.sum)
  | none=>none
 | _=>none
theorem Vals.ints:∀ {ns:List Int} {its:List Value},Vals (ns.map V.int) its->IntsAre its ns
 | [],_,.nil=>.nil
 | n::ns,_,.cons r t=>by
  obtain ⟨tk,rfl⟩:=r
  exact .cons n tk (Vals.ints t)
section
variable {X:Cx}
theorem si {ns:List Int} (rv:Vals (ns.map V.int) its):∃ xs:Array (Int×Tok),its.toArray=intItems xs/\preSum (numAt xs) xs.size=ns.sum:=by
 have hi:=Vals.ints rv
 obtain ⟨xs,hx⟩:=hi.allInts.items
 have e1:ns=xs.toList.map (·.1):=by
  rw [<- nums_intItems,<- hx]
  exact (show numsOf its.toArray.toList=ns from hi.numsOf).symm
 exact ⟨xs,hx,by rw [preSum_eq,List.take_of_length_le (by simp),e1]⟩
theorem A4 (hc:X.calm=true):nJ X (.builtin "sum") (fun xs H Q=>∃ p,∃ ns:List Int,xs=[.ref p]/\(SqL X.K H p (ns.map V.int)\/SqT X.K H p (ns.map V.int))/\Q (.int ns.sum) H):=by
 intro pins s σ H xs us Q I r ⟨p,ns,ex,hs,q⟩
 subst ex
 obtain ⟨u,rfl,r1⟩:=r.one
 cases r1
 rcases hs with hs|hs
 ·obtain ⟨its,rv,pl,hz⟩:=I.list hs
  obtain ⟨xs,hx,e2⟩:=si rv
  refine sum_intListG (I.ok.hd hc) (hx ▸ pl.isList) fun h' tk t' hk=>?_
  rw [e2]
  exact ⟨.int _,H,I.kept (t':=tk) hk,⟨_,rfl⟩,q⟩
 ·obtain ⟨its,rv,pl,hz⟩:=I.tuple hs
  obtain ⟨xs,hx,e2⟩:=si rv
  have ht:s.heap.IsTuple p its.toArray:=pl
  refine PySem.W.ktm_sumG (I.ok.hd hc) (hx ▸ ht) fun h' tk t' hk=>?_
  rw [e2]
  exact ⟨.int _,H,I.kept (t':=tk) hk,⟨_,rfl⟩,q⟩
theorem EG (K:PySem.W.Frag):JK K (fun xs H Q=>∃ p,∃ ns:List Int,xs=[.ref p]/\(SqL K H p (ns.map V.int)\/SqT K H p (ns.map V.int))/\Q (.int ns.sum) H) GH:=by
 intro G H xs ds d Q s r e q
 unfold GH at e
 split at e
 ·split at e
  ·rename_i ns hn
   cases e
   obtain ⟨v,rfl,r1⟩:=r.one
   obtain ⟨a,vs,rfl,hs,rr⟩:=r1.seq_inv
   obtain rfl:=rr.nums hn
   exact ⟨a,ns,rfl,.inl (hs.mono s),q _ G H (.refl s) (.int _)⟩
  ·cases e
 ·split at e
  ·rename_i ns hn
   cases e
   obtain ⟨v,rfl,r1⟩:=r.one
   obtain ⟨a,vs,rfl,hs,rr⟩:=r1.tup_inv
   obtain rfl:=rr.nums hn
   exact ⟨a,ns,rfl,.inr (hs.mono s),q _ G H (.refl s) (.int _)⟩
  ·cases e
 ·cases e
end
noncomputable def Kv (i j:Nat) (ga:Ev->R D) (gl:Ev->R (List D)):Ev->O:=fun ρ=>(ga ρ).out ρ fun d=>(gl ρ).out ρ fun ds=>.nx ((ρ.set i (some (.val d))).set j (some (.own ds)))
theorem Inv.turnedL {σ:List (Option V)} {t':Nat} (I:Inv X pins σ H s) (k:∀ b o,b ∉ ch->s.heap.get? b=some o->h'.get? b=some o) (f:∀ b∈ch,pe X pins H b) :
  Inv X pins σ H { s with heap:=h',toks:=t' }:=by
 have n1:∀ b u,H b=some u->b ∉ ch:=fun b u q z=>by rw [(f b z).1] at q;cases q
 refine I.step (g':=s.gens) (d':=s.drawn) (ch:=ch) (fun b hb=>?_) (fun b o _ _ hc q _=>k b o hc q) (fun b o _ _ hc q _=>⟨o.slots,k b o hc q⟩) (fun _ _ _ _ n=>n) (fun b o hc q=>⟨o,k b o hc q⟩) (fun _ _ q=>q) (fun _ _ _ q=>q) (fun b ps q=>⟨#[],by rw [q];simp⟩) (fun m hm=>?_) (fun b u q=>?_) I.bare
 ·obtain ⟨a0,a1,a2,a3,a4,a5⟩:=f b hb
  exact ⟨a3,a1,a4,a5⟩
 ·obtain ⟨o,es,ep,ho,r⟩:=hm
  exact ⟨o,es,ep,k _ o (fun z=>(f _ z).2.1 rfl) ho,r⟩
 ·refine (I.hok b u q).stay (fun c v hc q'=>k c v ?_ q') (fun _ q'=>q') fun _ _ q'=>q'
  rcases hc with z|z
  ·rw [z];exact n1 b u q
  ·exact n1 c _ z
noncomputable def Itz (sq1 sq2:Hp->List V->Prop):It:=⟨fun i H=>∃ xs ys x y,sq1 H xs/\sq2 H ys/\xs[i]?=some x/\ys[i]?=some y,
 fun i H v H'=>∃ p x y,v=.ref p/\H p=none/\H'=upd H p (.tup [x,y])/\(∀ xs,sq1 H xs->xs[i]?=some x)/\∀ ys,sq2 H ys->ys[i]?=some y,fun i H=>∃ xs ys,sq1 H xs/\sq2 H ys/\(xs.length<=i\/ys.length<=i)⟩
section
variable {P:Program} {w:World} {K:PySem.W.Frag} {elts:List Expr} {kt:Nat} {tp:Pos}
theorem CS {z TI TO i1 i2 l1 l2:Addr} (D:ZipApart z TI TO i1 i2 l1 l2) :
  Turn P w K (.Tuple elts kt tp) (Itz (fun H xs=>SqL K H l1 xs) (fun H xs=>SqL K H l2 xs)) [z,TI,TO,i1,i2] z (fun i h=>IsZip h z TI TO .none/\IsPair h TI (.ref i1) (.ref i2)/\(∃ a b,IsPair h TO a b)/\h.IsListIter i1 l1 i/\h.IsListIter i2 l2 i) where
 mem:=by simp
 obj:=fun i h st b hb=>by
  obtain ⟨s1,s2,⟨a,c,s3⟩,s4,s5⟩:=st
  simp only [List.mem_cons,List.mem_nil_iff,or_false] at hb
  rcases hb with rfl|rfl|rfl|rfl|rfl
  ·exact ⟨_,s1,fun v z=>by cases z⟩
  ·exact ⟨_,s2,fun v z=>by cases z⟩
  ·exact ⟨_,s3,fun v z=>by cases z⟩
  ·obtain ⟨o,q,c,d⟩:=s4;exact ⟨o,q,fun v z=>by rw [d] at z;cases z⟩
  ·obtain ⟨o,q,c,d⟩:=s5;exact ⟨o,q,fun v z=>by rw [d] at z;cases z⟩
 keep:=fun i h h' st k=>by
  obtain ⟨s1,s2,⟨a,c,s3⟩,s4,s5⟩:=st
  exact ⟨k z (by simp) _ s1,k TI (by simp) _ s2,⟨a,c,k TO (by simp) _ s3⟩,s4.at fun o q=>k i1 (by simp) o q,s5.at fun o q=>k i2 (by simp) o q⟩
 item:=by
  intro X hP hw hK hc i pins s σ H E I hf st hg
  obtain ⟨xs,ys,x,y,hq1,hq2,hx,hy⟩:=hg
  obtain ⟨s1,s2,⟨a,c,s3⟩,s4,s5⟩:=st
  subst hP hw hK
  obtain ⟨its1,rv1,p1,hz1⟩:=I.list hq1
  obtain ⟨its2,rv2,p2,hz2⟩:=I.list hq2
  obtain ⟨u1,hu1,ru1⟩:=rv1.get hx
  obtain ⟨u2,hu2,ru2⟩:=rv2.get hy
  refine wpAny_pyNext_zip_item D s1 s2 s3 s4 s5 p1.isList p2.isList (x:=u1) (y:=u2) (by simpa using hu1) (by simpa using hu2) fun h1 z1 zTO zi1 zi2 zp zsz zk=>?_
  refine ⟨_,rfl,wpAny_letOwnedTupleGo_zip z1 fun h2 z2 sb=>?_⟩
  have hzlt:z<s.heap.objs.size:=Heap.lt_size s1
  have hTIlt:TI<s.heap.objs.size:=Heap.lt_size s2
  have hTOlt:TO<s.heap.objs.size:=Heap.lt_size s3
  have hi1lt:i1<s.heap.objs.size:=by obtain ⟨o,q,_⟩:=s4;exact Heap.lt_size q
  have hi2lt:i2<s.heap.objs.size:=by obtain ⟨o,q,_⟩:=s5;exact Heap.lt_size q
  have hp:H s.heap.objs.size=none:=I.hok.fresh (Nat.le_refl _)
  have Ia:Inv X pins σ (upd H s.heap.objs.size (.tup [x,y])) { s with heap:=s.heap.push { cls:=.type "tuple",data:=.seq #[u1,u2] } }:=by
   refine I.laid (t':=s.toks) (fun b o q=>Heap.get?_push_of_some _ q) (Nat.le_refl _) ?_
   exact ⟨by show 2<=sizeLine;decide,[u1,u2],.cons ru1 (.cons ru2 .nil),IsTup.new _ _⟩
  have fp':∀ b∈[z,TI,TO,i1,i2],pe X pins (upd H s.heap.objs.size (.tup [x,y])) b:=fun b hb=>by
   have hlt:b<s.heap.objs.size:=by
    simp only [List.mem_cons,List.mem_nil_iff,or_false] at hb
    rcases hb with rfl|rfl|rfl|rfl|rfl <;> assumption
   exact ⟨by rw [aU (Nat.ne_of_lt hlt)];exact (hf b hb).1,(hf b hb).2⟩
  have ht2:h2.get? s.heap.objs.size=some { cls:=.type "tuple",data:=.seq #[u1,u2] }:=(sb.2 _ (Nat.ne_of_gt hzlt)).trans zp
  have Ib:Inv X pins σ (upd H s.heap.objs.size (.tup [x,y])) { s with heap:=h2 }:=by
   refine Inv.turnedL (s:={ s with heap:=s.heap.push { cls:=.type "tuple",data:=.seq #[u1,u2] } }) (h':=h2) (t':=s.toks) (ch:=[z,TI,TO,i1,i2]) Ia (fun b o hb q=>?_) fp'
   have q:(s.heap.push { cls:=.type "tuple",data:=.seq #[u1,u2] }).get? b=some o:=q
   simp only [List.mem_cons,List.mem_nil_iff,or_false,not_or] at hb
   obtain ⟨b1,b2,b3,b4,b5⟩:=hb
   by_cases e:b=s.heap.objs.size
   ·subst e
    have q':=Heap.get?_push_size s.heap (o:={ cls:=.type "tuple",data:=.seq #[u1,u2] }) rfl
    rw [q'] at q
    rw [ht2];exact q
   ·have q2:s.heap.get? b=some o:=by
     rcases Nat.lt_or_ge b s.heap.objs.size with hb|hb
     ·exact tT hb q
     ·have hlt:b<(s.heap.push { cls:=.type "tuple",data:=.seq #[u1,u2] }).objs.size:=Heap.lt_size q
      rw [Heap.size_push] at hlt
      exact absurd (Nat.le_antisymm (Nat.le_of_lt_succ hlt) hb) e
    exact (sb.2 b b1).trans (zk b o b1 b3 b4 b5 q2)
  refine ⟨.ref s.heap.objs.size,_,Ib,rfl,⟨_,x,y,rfl,hp,rfl,fun zs h=>by rw [I.list_inj h hq1];exact hx,fun zs h=>by rw [I.list_inj h hq2];exact hy⟩,⟨z2,?_,⟨u1,u2,(sb.2 TO D.TOz).trans zTO⟩,zi1.at fun o q=>(sb.2 i1 D.i1z).trans q,zi2.at fun o q=>(sb.2 i2 D.i2z).trans q⟩,fun b hb=>(fp' b hb).1⟩
  exact (sb.2 TI D.TIz).trans (zk TI _ D.TIz D.TITO D.TIi1 D.TIi2 s2)
 done:=by
  intro X hP hw hK hc i pins s σ H E I hf st hg
  obtain ⟨xs,ys,hq1,hq2,hx⟩:=hg
  obtain ⟨s1,s2,⟨a,c,s3⟩,s4,s5⟩:=st
  subst hP hw hK
  obtain ⟨its1,rv1,p1,hz1⟩:=I.list hq1
  obtain ⟨its2,rv2,p2,hz2⟩:=I.list hq2
  have e1:=rv1.length
  have e2:=rv2.length
  refine wpAny_pyNext_zip_end (I.ok.hd hc) D s1 s2 s3 s4 s5 p1.isList p2.isList ?_ fun h' hk=>⟨rfl,I.turnedL (t':=s.toks) (ch:=[z,TI,TO,i1,i2]) (fun b o hb q=>?_) hf⟩
  ·rcases hx with hx|hx
   ·exact .inl (by simp;omega)
   ·exact .inr (by simp;omega)
  ·simp only [List.mem_cons,List.mem_nil_iff,or_false,not_or] at hb
   obtain ⟨b1,b2,b3,b4,b5⟩:=hb
   exact hk b o b1 b3 b4 b5 q
 self:=fun A i s Q E st h=>wpAny_pyIter_zip st.1 h
theorem ItOk.zip {sq1 sq2:Hp->List V->Prop} {ws:List V} {es:List D} (h1:∀ G1 H1,Same G G1->Same G1 H1->sq1 H1 vs) (h2:∀ G1 H1,Same G G1->Same G1 H1->sq2 H1 ws) (r1:Reps K G vs ds) (r2:Reps K G ws es):ItOk K G (Itz sq1 sq2) (List.zipWith (fun x y=>.tup [x,y]) ds es):=by
 intro i G1 H1 s1 s2
 refine ⟨fun d e=>?_,fun hl=>⟨vs,ws,h1 G1 H1 s1 s2,h2 G1 H1 s1 s2,by rw [List.length_zipWith] at hl;rw [r1.length,r2.length];omega⟩⟩
 rw [List.getElem?_zipWith] at e
 cases e1:ds[i]? with
 | none=>rw [e1] at e;cases e
 | some dx=>
  cases e2:es[i]? with
  | none=>rw [e1,e2] at e;cases e
  | some dy=>
   rw [e1,e2] at e
   have e:=(Option.some.inj e).symm
   subst e
   obtain ⟨v,ev,rv⟩:=r1.get e1
   obtain ⟨u,eu,ru⟩:=r2.get e2
   refine ⟨⟨vs,ws,v,u,h1 G1 H1 s1 s2,h2 G1 H1 s1 s2,ev,eu⟩,fun x H' y=>?_⟩
   obtain ⟨p,x',y',rfl,hp,rfl,z1,z2⟩:=y
   have z1:=z1 vs (h1 G1 H1 s1 s2)
   have z2:=z2 ws (h2 G1 H1 s1 s2)
   rw [ev] at z1
   rw [eu] at z2
   cases z1
   cases z2
   refine ⟨upd G1 p (.tup [v,u]),.new s2 hp,.tup (.of bc) (.cons ((rv.mono s1).mono (.into (s2.free hp))) (.cons ((ru.mono s1).mono (.into (s2.free hp))) .nil))⟩
end
noncomputable def Fq:List D->R (List D)
 | [.lst _ xs,.lst _ ys]=>.ok (List.zipWith (fun x y=>.tup [x,y]) xs ys)
 | _=>.no
theorem Rep.lstSq {K:PySem.W.Frag} {f:Bool} {xs:List D} (r:Rep K G v (.lst f xs)):∃ a vs,v=.ref a/\SqL K G a vs/\Reps K G vs xs:=by
 cases r with
 | lst hq t=>exact ⟨_,_,rfl,.of hq,t⟩
 | fls hq t=>exact ⟨_,_,rfl,hq,t⟩
noncomputable def JG:D->D->R D
 | .str x,.int k=>if k = -1 then .ok (.str x.reverse) else .no
 | .lst _ xs,.int k=>if k = -1 then .ok (.lst false xs.reverse) else .no
 | _,_=>.no
noncomputable def Nb (ga gs:Ev->R D):Ev->R D:=fun ρ=>ga ρ>>=fun x=>gs ρ>>=fun k=>JG x k
noncomputable def wE (gt:Ev->R Bool) (g:Ev->O):Nat->Ev->O
 | 0,_=>.no
 | n+1,ρ=>(gt ρ).out ρ fun k=>if k=true then (match g ρ with
  | .nx ρ2=>wE gt g n ρ2
  | .ct ρ2=>wE gt g n ρ2
  | .bk ρ2=>.nx ρ2
  | .rt d=>.rt d
  | .re d ρ2=>.re d ρ2
  | .ex C ρ2=>.ex C ρ2
  | .no=>.no) else .nx ρ
noncomputable def Jq (n:Nat) (gt:Ev->R Bool) (g:Ev->O):Ev->O:=fun ρ=>wE gt g n ρ
noncomputable def zG (gs:List (Ev->R D)) (ρ:Ev):D->R D
 | .int i=>if 0<=i then (match gs[i.toNat]? with
  | some g=>g ρ
  | none=>.no) else .no
 | _=>.no
noncomputable def KH (gs:List (Ev->R D)) (gi:Ev->R D):Ev->R D:=fun ρ=>gi ρ>>=zG gs ρ
theorem GN {gi:Ev->R D}:KH gs gi ρ=gi ρ>>=zG gs ρ:=rfl
theorem Im {g:Ev->R D}:zG (g::gs) ρ (.int 0)=g ρ:=rfl
theorem Je {f g:Ev->R D}:zG (f::g::gs) ρ (.int 1)=g ρ:=rfl
section
variable {X:Cx} {a b:Expr} {ga gb:Ev->R D} {pos:Pos}
structure KTup (K:PySem.W.Frag) (c:Addr) (ls:List (List Nat)):Prop where
 ex:∃ (o:Obj) (its:Array Value) (n:Nat) (vs:List V),K.lookup c=some o/\o.cls=.type "tuple"/\o.data=.seq its n/\its.size<=sizeLine/\Vals vs its.toList/\∀ G,Reps K G vs (ls.map .str)
end
def MI (n:Nat):List Nat:=(Nat.toDigits 10 n).map Char.toNat
section
variable {X:Cx} {a b c e e1 e2 e3 e4 e5:Expr} {ga gb gc g1 g2' g3' g4 g5:Ev->R D} {gl:Ev->R (List D)} {pos p:Pos}
noncomputable def Ni:D->R D
 | .int i=>if 0<=i/\i<10000000000 then .ok (.str (MI i.toNat)) else .no
 | .str x=>.ok (.str x)
 | _=>.no
noncomputable def vZ:List (Ev->R D)->List Nat->Ev->R D
 | [],out=>fun _=>.ok (.str out)
 | g::gs,out=>fun ρ=>g ρ>>=fun d=>match d with
  | .str x=>if (out++x).length<=sizeLine then vZ gs (out++x) ρ else .no
  | _=>.no
def LN (gs:List (Ev->R D)):Ev->R D:=vZ gs []
end
noncomputable def Lu (j i:Nat) (gl:Ev->R (List D)):Ev->O:=fun ρ=>(dH (gl (frz j ρ))).out ρ fun ds=>if ds.all (fl 10)=true then .nx (ρ.set i (some (.own ds))) else .no
section
variable {prog:Program} {w:World} {A:Around} {E:Value->Shared->Prop} {s:Shared}
structure Z3 (z TI TO i1 i2 i3 l1 l2 l3:Addr):Prop where
 nd:[z,TI,TO,i1,i2,i3].Nodup
 ap:∀ l∈[l1,l2,l3],l ∉ [z,TO,i1,i2,i3]
end
noncomputable def xv (asg:D->Ev->R Ev) (gt:Ev->R Bool) (ge:Ev->R D):List D->Ev->R (List D)
 | [],_=>.ok []
 | d::ds,ρ=>dH (asg d ρ)>>=fun ρ1=>dH (gt ρ1)>>=fun k=>if k=true then ge ρ1>>=fun x=>xv asg gt ge ds ρ1>>=fun xs=>.ok (x::xs) else xv asg gt ge ds ρ1
noncomputable def G0 (gi:Ev->R (List D)) (ix:List Nat) (gt:Ev->R Bool) (ge:Ev->R D):Ev->R (List D):=fun ρ=>gi ρ>>=fun items=>if items.length<=sizeLine then xv (kU 0) gt ge items (gW ix ρ) else .no
section
variable {X:Cx} {a b c e ix:Expr} {es:List Expr} {ga gb gi:Ev->R D} {gl:Ev->R (List D)} {pos p p1 p2 p3 pl sp:Pos}
noncomputable def Js (c:Nat):List Nat->Option (List Nat×List Nat)
 | []=>none
 | d::r=>if d=c then some ([],r) else (Js c r).map fun p=>(d::p.1,p.2)
noncomputable def EI (c:Nat) (x:List Nat):List Nat×List Nat×List Nat:=match Js c x with
 | some (p,q)=>(p,[c],q)
 | none=>(x,[],[])
noncomputable def KB:D->List D->Option D
 | .str x,[.str [c]]=>if x.length<=10000 then some (.tup [.str (EI c x).1,.str (EI c x).2.1,.str (EI c x).2.2]) else none
 | _,_=>none
theorem Hj {f g h:Ev->R D}:zG (f::g::h::gs) ρ (.int 2)=h ρ:=rfl
end
structure ClOk (N:List Str) (scope:Scope) (cl:List (Str×Addr)) (σ:St) (H:Hp) (h:Heap):Prop where
 kind:scope.kind=.function
 nocell:∀ y∈scope.names,y.2 ≠ .cell
 inj:∀ y z c,cl.lookup y=some c->cl.lookup z=some c->y=z
 has:∀ y,scope.names.lookup y=some .free->∃ c,cl.lookup y=some c
 cell:∀ y c,cl.lookup y=some c->H c=none/\∃ v,h.IsCell c v
 val:∀ (i:Nat) y v,N[i]?=some y->σ[i]?=some (some v)->∃ u c,RelV v u/\scope.names.lookup y=some .free/\cl.lookup y=some c/\h.IsCell c (some u)
 len:σ.length=N.length
section
variable {X:Cx} {pins:List (Addr×Obj)} {σ:St} {H:Hp} {s:Shared} {params:Arguments} {body:Expr} {scope:Scope} {pos:Pos} {c P:Addr} {ps:Array Value} {Q:Value->Shared->Prop}
structure Lam (X:Cx) (pins:List (Addr×Obj)) (σ:St) (H:Hp) (s:Shared) (params:Arguments) (body:Expr) (scope:Scope) (f:Addr) (cd ctv pm:Value) (H1:Hp) (s1:Shared):Prop where
 inv:Inv X pins σ H1 s1
 hh:Same H H1
 new:∀ a,H a=none->H1 a=none\/s.heap.objs.size<=a
 free:H1 f=none
 fn:s1.heap.get? f=some { cls:=.type "function",data:=.func (PySem.W.kla_fn "<lambda>" (X.env.qual++"<lambda>") params body scope (yQ X.env scope.names []) pm cd ctv) }
 codeH:∃ c o vs t u,cd=.ref c/\H1 c=some (.frz o u)/\o.data=.fields vs/\vs[1]?=some (.str (X.env.qual++"<lambda>") t)
end
structure FnFH (P:Program) (w:World) (K:PySem.W.Frag) (mg:Str->Option Value) (base:Heap) (k:Nat) (f:Addr) (fd:FuncData) (ps:List Str) (g:List D->R D):Prop where
 run:∀ (A:Around) (x:Addr) (outer:List Env) (s:Shared) (H:Hp) (args:Args) (us:List Value) (vs:List V) (Q:VK) (E:XK),Room k A->Env0 P w K mg base A outer s H->BindsTo s fd args (ps.zip us)->Vals vs us->(vs.length=ps.length/\spF K g vs H Q E)->
  codeAny (model P w) (A.mark (some (.ref x))) (.call (.ref f) args) (CR (CXo P w) outer P w H s Q E) s
structure CalleeH (P:Program) (w:World) (K:PySem.W.Frag) (mg:Str->Option Value) (base:Heap) (x:Str) (k n:Nat) (g:List D->R D):Prop where
 ex:∃ f fd ps,FnFH P w K mg base k f fd ps g/\mg x=some (.ref f)/\PySem.W.keepIn K (.ref f)=true/\Binds K fd ps []/\ps.length=n
noncomputable def IU (P:Program) (w:World) (K:PySem.W.Frag) (mg:Str->Option Value) (base:Heap) (k:Nat) (s1:Shared) (G1 H1:Hp) (f:Addr) (m:R D):Prop:=
 ∀ (Y:Cx) (pins:List (Addr×Obj)) (σY:St) (G2 H2:Hp) (s2:Shared) (fs:List Addr) (Q:VK),Y.prog=P->Y.w=w->Y.K=K->Y.mg=mg->Y.base=base->Inv Y pins σY H2 s2->Room k Y.A->Un fs [] H1 H2 s1.heap s2.heap->Up G1 H1 G2 H2->
  m.post (Fin G2 H2 (Rep Y.K) Q) (Exx Y σY G2 H2)->(∃ o fd,s2.heap.get? f=some o/\o.data=.func fd)/\wpAny (model Y.prog Y.w) Y.A (call (.ref f) []) (EP Y pins σY Q) Y.xe s2
structure Told (P:Program) (w:World) (K:PySem.W.Frag) (mg:Str->Option Value) (base:Heap) (x:Str) (k j:Nat) (g:R D->R D):Prop where
 ex:∃ ft,mg x=some (.ref ft)/\PySem.W.keepIn K (.ref ft)=true/\∀ (A:Around) (outer:List Env) (s1:Shared) (G1 H1:Hp) (f:Addr) (m:R D) (Q:VK) (E:XK),Room k A->Env0 P w K mg base A outer s1 H1->Same G1 H1->IU P w K mg base j s1 G1 H1 f m->
  (g m).post (Fin G1 H1 (Rep K) Q) (fun C=>∀ G' H',Up G1 H1 G' H'->E (.ref C) none H')->codeAny (model P w) A (.call (.ref ft) ⟨[.ref f],[]⟩) (CR (CXo P w) outer P w H1 s1 Q E) s1
structure LamAt (X:Cx):Prop where
 ex:∃ c P q,X.env.code=.ref c/\(∀ h,X.K.In h->PySem.W.CodeHd h c P)/\JF X.base P q/\q=X.env.qual++"<lambda>"/\X.base.BuiltinsAt X.mg P/\mainGlobals≠P
structure LamOk (X:Cx) (scope:Scope) (N':List Str) (ix:List Nat):Prop where
 kind:scope.kind=.function
 co:scope.isCoroutine=false
 gen:scope.isGenerator=false
 cell:∀ y∈scope.names,y.2 ≠ .cell
 fr:∀ y∈scope.names,y.2=.free->X.env.kindOf y.1=some .cell
 tl:N'=ix.map fun (i:Nat)=>X.N.getD i Str.empty
 lt:∀ i∈ix,i<X.N.length
 fre:∀ y∈N',scope.names.lookup y=some .free/\(y,NameKind.free)∈scope.names
structure LamDef (K:PySem.W.Frag) (mg:Str->Option Value) (fd:FuncData) (Pt:Addr):Prop where
 ex:∃ c,fd.code=.ref c/\∀ h,K.In h->PySem.W.CodeHd h c Pt
 ne:mainGlobals≠Pt
structure LamB (K:PySem.W.Frag) (mg:Str->Option Value) (base:Heap) (qual:Str) (fd:FuncData) (Pt:Addr):Prop where
 ld:LamDef K mg fd Pt
 tb:JF base Pt (qual++".<locals>."++"<lambda>")
 bm:base.BuiltinsAt mg Pt
noncomputable def hid (H:Hp) (ow:li):Hp:=fun a=>if (ow a).isSome=true then none else H a
theorem Cy {o:HO} (h:hid H ow a=some o):H a=some o/\ow a=none:=by
 unfold hid at h
 split at h
 ·cases h
 ·rename_i q;exact ⟨h,by cases e:ow a with|none=>rfl|some t=>rw [e] at q;exact absurd rfl q⟩
theorem lU {t:Nat×Nat} (h:ow a=some t):hid H ow a=none:=by
 unfold hid;rw [h];exact if_pos rfl
theorem jd (h:ow a=none):hid H ow a=H a:=by
 unfold hid;rw [h];exact if_neg (by simp)
theorem Fk (H:Hp) (ow:li):Same (hid H ow) H:=fun a o e=>(Cy e).1
noncomputable def uD (i j:Nat) (ow:li):li:=fun a=>match ow a with
 | some (i',t)=>if i'=i then some (j,t) else none
 | none=>none
theorem rh {t:Nat} (h:ow a=some (i,t)):uD i j ow a=some (j,t):=by
 unfold uD;rw [h];exact if_pos rfl
theorem CD {t:Nat×Nat} (h:uD i j ow a=some t):ow a=some (i,t.2)/\t.1=j:=by
 unfold uD at h
 split at h
 ·rename_i i' t' e
  split at h
  ·rename_i z;subst z;cases h;exact ⟨e,rfl⟩
  ·cases h
 ·cases h
section
variable {K:PySem.W.Frag} {H₀ G H:Hp} {ow:li} {i j:Nat} {m:Bool} {C p:Addr} {fs:List (Nat×Fd)}
theorem FdAt.hid {m':Bool}:∀ {fd:Fd} {v:V},FdAt K H₀ G H ow i m k fd v->FdAt K (L2.hid H ow) G H ow i m' k fd v
 | .val d,v,r=>r
 | .own ds,v,⟨l,ws,e,h1,h2,h3,h4,h5⟩=>⟨l,ws,e,h1,h2,fun _=>lU h5,h4,h5⟩
theorem FdsAt.hid {m':Bool}:∀ {fs:List (Nat×Fd)} {vs:List (Str×V)},FdsAt K H₀ G H ow i m fs vs->FdsAt K (L2.hid H ow) G H ow i m' fs vs
 | _,_,.nil=>.nil
 | _,_,.cons h nk r t=>.cons h nk (FdAt.hid r) (FdsAt.hid t)
theorem InsAt.hid (h:InsAt K H₀ G H ow i m C p fs) (m':Bool):InsAt K (L2.hid H ow) G H ow i m' C p fs:=by
 obtain ⟨dx,vs,h1,h2,h3,h4,h5,h6,h7,h8⟩:=h
 exact ⟨dx,vs,h1,h2,h3,h4,fun _=>⟨lU h6,lU h7⟩,h6,h7,h8.hid⟩
theorem DcoAt.hid (h:DcoAt K H₀ G H ow i m p fs) (m':Bool):DcoAt K (L2.hid H ow) G H ow i m' p fs:=
 let ⟨o,xs,ks,ds,h1,h2,h3,h4,h5,h6,h7⟩:=h
 ⟨o,xs,ks,ds,h1,h2,fun _=>lU h4,h4,h5,h6,h7⟩
theorem ObjAt.hid (h:ObjAt K H₀ G H ow i m C p fs) (m':Bool):ObjAt K (L2.hid H ow) G H ow i m' C p fs:=h.imp (fun z=>⟨z.1,z.2.hid m'⟩) fun z=>⟨z.1,z.2.hid m'⟩
theorem FdAt.ro {H₀':Hp}:∀ {fd:Fd} {v:V},FdAt K H₀ G H ow i m k fd v->FdAt K H₀' G H ow i false k fd v
 | .val d,v,r=>r
 | .own ds,v,⟨l,ws,e,h1,h2,h3,h4,h5⟩=>⟨l,ws,e,h1,h2,fun z=>absurd z (by decide),h4,h5⟩
theorem FdsAt.ro {H₀':Hp}:∀ {fs:List (Nat×Fd)} {vs:List (Str×V)},FdsAt K H₀ G H ow i m fs vs->FdsAt K H₀' G H ow i false fs vs
 | _,_,.nil=>.nil
 | _,_,.cons h nk r t=>.cons h nk (FdAt.ro r) (FdsAt.ro t)
theorem InsAt.ro (h:InsAt K H₀ G H ow i m C p fs) (H₀':Hp):InsAt K H₀' G H ow i false C p fs:=by
 obtain ⟨dx,vs,h1,h2,h3,h4,h5,h6,h7,h8⟩:=h
 exact ⟨dx,vs,h1,h2,h3,h4,fun z=>absurd z (by decide),h6,h7,h8.ro⟩
theorem DcoAt.ro (h:DcoAt K H₀ G H ow i m p fs) (H₀':Hp):DcoAt K H₀' G H ow i false p fs:=
 let ⟨o,xs,ks,ds,h1,h2,h3,h4,h5,h6,h7⟩:=h
 ⟨o,xs,ks,ds,h1,h2,fun z=>(nomatch z),h4,h5,h6,h7⟩
theorem ObjAt.ro (h:ObjAt K H₀ G H ow i m C p fs) (H₀':Hp):ObjAt K H₀' G H ow i false C p fs:=h.imp (fun z=>⟨z.1,z.2.ro H₀'⟩) fun z=>⟨z.1,z.2.ro H₀'⟩
end
noncomputable def eZ (m:Bool) (C p:Addr) (fs:List (Nat×Fd)) (n:Nat) (ds:List D):Ev:=some (.obj m C p fs)::(ds.map (fun d=>some (.val d))++List.replicate (n - (ds.length+1)) none)
theorem ua {K:PySem.W.Frag} {H₀:Hp} {m:Bool} {p:Addr} {fs:List (Nat×Fd)} {N:List Str} {us:List V} (sub0:Same G H₀) (up:Up G H₀ G H) (r:Reps K G us ds) (ob:ObjAt K H₀ G H ow 0 m C p fs) :
  StR K G H₀ G H (jf N (.ref p::us)) (eZ m C p fs N.length ds):=by
 have hl:=r.length
 have get:∀ (i:Nat) x,(eZ m C p fs N.length ds)[i]?=some (some x)->(i=0/\x=.obj m C p fs)\/∃ k d,i=k+1/\ds[k]?=some d/\x=.val d:=fun i x e=>by
  cases i with
  | zero=>left;cases e;exact ⟨rfl,rfl⟩
  | succ k=>
   right
   unfold eZ at e
   rw [List.getElem?_cons_succ] at e
   by_cases hi:k<ds.length
   ·rw [List.getElem?_append_left (by simpa using hi),List.getElem?_map] at e
    cases q:ds[k]? with
    | none=>rw [q] at e;cases e
    | some d=>rw [q] at e;cases e;exact ⟨k,d,rfl,q,rfl⟩
   ·rw [List.getElem?_append_right (by simpa using hi),List.getElem?_replicate] at e
    split at e <;> cases e
 have obs:ObSt K H₀ G H (jf N (.ref p::us)) (eZ m C p fs N.length ds):=by
  refine ⟨ow,fun i es l e=>?_,fun i m' C' p' fs' e=>?_⟩
  ·rcases get i _ e with ⟨_,z⟩|⟨k,d,_,_,z⟩ <;> cases z
  ·rcases get i _ e with ⟨rfl,z⟩|⟨k,d,_,_,z⟩
   ·cases z;exact ⟨rfl,ob⟩
   ·cases z
 refine ⟨⟨up.sub,?_,fun i d e=>?_,obs.rd⟩,sub0,up,fun i es e=>?_,fun i j es fs l e=>?_,obs⟩
 ·simp [jf,eZ,hl]
 ·rcases get i _ e with ⟨_,z⟩|⟨k,d',rfl,e',z⟩
  ·cases z
  ·cases z
   obtain ⟨v,ev,rv⟩:=r.get e'
   refine ⟨v,?_,rv⟩
   unfold jf
   rw [List.map_cons,List.cons_append,List.getElem?_cons_succ,List.getElem?_append_left (by have:=(List.getElem?_eq_some_iff.mp ev).1;simpa using this),List.getElem?_map,ev]
   rfl
 ·rcases get i _ e with ⟨_,z⟩|⟨k,d,_,_,z⟩ <;> cases z
 ·rcases get i _ e with ⟨_,z⟩|⟨k,d,_,_,z⟩ <;> cases z
inductive RM where
 | ok (d:D) (fs:List (Nat×Fd))|rd (d:D)|ex (C:Addr)|no
abbrev MF:=List (Nat×Fd)->List D->RM
noncomputable def sQ (C:Addr) (g:Ev->O) (n:Nat) (F:MF):Prop:=∀ p fs ds,match F fs ds with
 | .ok d fs'=>∃ ρ',ρ'[0]?=some (some (.obj true C p fs'))/\(g (eZ true C p fs n ds)=.re d ρ'\/(g (eZ true C p fs n ds)=.nx ρ'/\d=.non))
 | .rd d=>g (eZ false C p fs n ds)=.rt d
 | .ex E=>∃ ρ',g (eZ false C p fs n ds)=.ex E ρ'
 | .no=>True
noncomputable def spM (K:PySem.W.Frag) (C:Addr) (F:MF):Sp:=fun vs H Q E=>∃ G p us ds fs ow,vs=.ref p::us/\Reps K G us ds/\Same G H/\(∀ a t,ow a=some t->G a=none)/\ObjAt K (fun _=>none) G H ow 0 true C p fs/\match F fs ds with
 | .ok d fs'=>∀ v G' H' ow',Up G (hid H ow) G' H'->ObjAt K (hid H ow) G' H' ow' 0 true C p fs'->Rep K G' v d->Q v H'
 | .rd d=>∀ v G' H',Up G H G' H'->Rep K G' v d->Q v H'
 | .ex C'=>∀ G' H',Up G H G' H'->E (.ref C') none H'
 | .no=>False
noncomputable abbrev FnM (P:Program) (w:World) (K:PySem.W.Frag) (mg:Str->Option Value) (base:Heap) (k:Nat) (f:Addr) (fd:FuncData) (ps:List Str) (C:Addr) (F:MF):Prop:=FnOk P w K mg base (CXo P w) k f fd ps (fun vs H Q E=>vs.length=ps.length/\spM K C F vs H Q E)
theorem Hm (sub:Same G H) (hg:∀ a t,ow a=some t->G a=none):Same G (hid H ow)/\Up G (hid H ow) G H:=by
 have s:Same G (hid H ow):=fun a o e=>by
  cases q:ow a with
  | none=>rw [jd q];exact sub a o e
  | some t=>rw [hg a t q] at e;cases e
 exact ⟨s,sub,.refl _,Fk H ow,fun _ _ e=>.inl e⟩
noncomputable def oT (i:Nat) (m:Bool) (H₀ G H:Hp) (ow:li):li:=fun a=>open Classical in if (∃ o,H a=some o)/\G a=none/\(m=true->H₀ a=none) then uD i 0 ow a else none
section
variable {K:PySem.W.Frag} {H₀ G H:Hp} {ow:li} {i:Nat} {m:Bool} {C p:Addr} {fs:List (Nat×Fd)}
theorem qt {t:Nat} {o:HO} (h:ow a=some (i,t)) (e:H a=some o) (g:G a=none) (z:m=true->H₀ a=none):oT i m H₀ G H ow a=some (0,t):=by
 unfold oT;rw [if_pos ⟨⟨o,e⟩,g,z⟩];exact rh h
theorem nv {t:Nat×Nat} (h:oT i m H₀ G H ow a=some t):ow a=some (i,t.2)/\(∃ o,H a=some o)/\G a=none/\(m=true->H₀ a=none):=by
 unfold oT at h
 split at h
 ·rename_i q;exact ⟨(CD h).1,q⟩
 ·cases h
theorem FdAt.cut:∀ {fd:Fd} {v:V},FdAt K H₀ G H ow i m k fd v->FdAt K (fun _=>none) G H (oT i m H₀ G H ow) 0 true k fd v
 | .val d,v,r=>r
 | .own ds,v,⟨l,ws,e,h1,h2,h3,h4,h5⟩=>⟨l,ws,e,h1,h2,fun _=>rfl,h4,qt h5 h1 h2 h3⟩
theorem FdsAt.cut:∀ {fs:List (Nat×Fd)} {vs:List (Str×V)},FdsAt K H₀ G H ow i m fs vs->FdsAt K (fun _=>none) G H (oT i m H₀ G H ow) 0 true fs vs
 | _,_,.nil=>.nil
 | _,_,.cons h nk r t=>.cons h nk (FdAt.cut r) (FdsAt.cut t)
theorem InsAt.cut (h:InsAt K H₀ G H ow i m C p fs):InsAt K (fun _=>none) G H (oT i m H₀ G H ow) 0 true C p fs:=by
 obtain ⟨dx,vs,h1,h2,h3,h4,h5,h6,h7,h8⟩:=h
 exact ⟨dx,vs,h1,h2,h3,h4,fun _=>⟨rfl,rfl⟩,qt h6 h1 h3 fun z=>(h5 z).1,qt h7 h2 h4 fun z=>(h5 z).2,h8.cut⟩
theorem DcoAt.cut (h:DcoAt K H₀ G H ow i m p fs):DcoAt K (fun _=>none) G H (oT i m H₀ G H ow) 0 true p fs:=
 let ⟨o,xs,ks,ds,h1,h2,h3,h4,h5,h6,h7⟩:=h
 ⟨o,xs,ks,ds,h1,h2,fun _=>rfl,qt h4 h1 h2 h3,h5,h6,h7⟩
theorem ObjAt.cut (h:ObjAt K H₀ G H ow i m C p fs):ObjAt K (fun _=>none) G H (oT i m H₀ G H ow) 0 true C p fs:=h.imp (fun z=>⟨z.1,z.2.cut⟩) fun z=>⟨z.1,z.2.cut⟩
end
section
variable {K:PySem.W.Frag} {H₀ H₀' G H:Hp} {ow ow2:li} {i:Nat} {C p:Addr}
theorem FdAt.newtag (h:∀ a t,ow a=some (0,t)->H₀ a=none->ow2 a=some (i,t)) (z:∀ a,H₀ a=none->H₀' a=none):∀ {fd:Fd} {v:V},FdAt K H₀ G H ow 0 true k fd v->FdAt K H₀' G H ow2 i true k fd v
 | .val d,v,r=>r
 | .own ds,v,⟨l,ws,e,h1,h2,h3,h4,h5⟩=>⟨l,ws,e,h1,h2,fun _=>z l (h3 rfl),h4,h l _ h5 (h3 rfl)⟩
theorem FdsAt.newtag (h:∀ a t,ow a=some (0,t)->H₀ a=none->ow2 a=some (i,t)) (z:∀ a,H₀ a=none->H₀' a=none):∀ {fs:List (Nat×Fd)} {vs:List (Str×V)},FdsAt K H₀ G H ow 0 true fs vs->FdsAt K H₀' G H ow2 i true fs vs
 | _,_,.nil=>.nil
 | _,_,.cons k nk r t=>.cons k nk (FdAt.newtag h z r) (FdsAt.newtag h z t)
theorem InsAt.newtag {fs:List (Nat×Fd)} (h:∀ a t,ow a=some (0,t)->H₀ a=none->ow2 a=some (i,t)) (z:∀ a,H₀ a=none->H₀' a=none) (o:InsAt K H₀ G H ow 0 true C p fs):InsAt K H₀' G H ow2 i true C p fs:=by
 obtain ⟨dx,vs,h1,h2,h3,h4,h5,h6,h7,h8⟩:=o
 exact ⟨dx,vs,h1,h2,h3,h4,fun _=>⟨z p (h5 rfl).1,z dx (h5 rfl).2⟩,h p _ h6 (h5 rfl).1,h dx _ h7 (h5 rfl).2,h8.newtag h z⟩
theorem DcoAt.newtag {fs:List (Nat×Fd)} (h:∀ a t,ow a=some (0,t)->H₀ a=none->ow2 a=some (i,t)) (z:∀ a,H₀ a=none->H₀' a=none) (o:DcoAt K H₀ G H ow 0 true p fs):DcoAt K H₀' G H ow2 i true p fs:=
 let ⟨o,xs,ks,ds,h1,h2,h3,h4,h5,h6,h7⟩:=o
 ⟨o,xs,ks,ds,h1,h2,fun _=>z p (h3 rfl),h p 0 h4 (h3 rfl),h5,h6,h7⟩
theorem ObjAt.newtag {fs:List (Nat×Fd)} (h:∀ a t,ow a=some (0,t)->H₀ a=none->ow2 a=some (i,t)) (z:∀ a,H₀ a=none->H₀' a=none) (o:ObjAt K H₀ G H ow 0 true C p fs):ObjAt K H₀' G H ow2 i true C p fs:=o.imp (fun y=>⟨y.1,y.2.newtag h z⟩) fun y=>⟨y.1,y.2.newtag h z⟩
end
theorem StR.meth {K:PySem.W.Frag} {H₀ G':Hp} {p:Addr} {fs:List (Nat×Fd)} {ow':li} (s:StR K G₀ H₀ G H σ ρ) (e:ρ[i]?=some (some (.obj true C p fs))) (o1:∀ (j:Nat) ds l,ρ[j]?=some (some (.own ds))->σ[j]?=some (some (.ref l))->ow l=some (j,0))
 (o2:∀ (j:Nat) m C p fs,ρ[j]?=some (some (.obj m C p fs))->σ[j]?=some (some (.ref p))/\ObjAt K H₀ G H ow j m C p fs)
 (u:Up G (hid H (oT i true H₀ G H ow)) G' H') (ob:ObjAt K (hid H (oT i true H₀ G H ow)) G' H' ow' 0 true C p fs'):StR K G₀ H₀ G' H' σ (ρ.set i (some (.obj true C p fs'))):=by
 have hl:i<ρ.length:=(List.getElem?_eq_some_iff.mp e).1
 have get:∀ (j:Nat) x,(ρ.set i (some (.obj true C p fs')))[j]?=some (some x)->(j=i/\x=.obj true C p fs')\/(j≠i/\ρ[j]?=some (some x)):=fun j x h=>by
  by_cases z:i=j
  ·subst z
   rw [List.getElem?_set_self hl] at h
   exact .inl ⟨rfl,by injection (Option.some.inj h) with q;exact q.symm⟩
  ·rw [List.getElem?_set_ne z] at h
   exact .inr ⟨fun q=>z q.symm,h⟩
 have keep:∀ a o,H a=some o->oT i true H₀ G H ow a=none->H' a=some o:=fun a o q n=>u.hh a o (by rw [jd n];exact q)
 have out0:∀ a,H₀ a≠none->oT i true H₀ G H ow a=none:=fun a q=>by
  cases z:oT i true H₀ G H ow a with
  | none=>rfl
  | some t=>exact absurd ((nv z).2.2.2 rfl) q
 have outT:∀ a j t,j≠i->ow a=some (j,t)->oT i true H₀ G H ow a=none:=fun a j t nj q=>by
  cases z:oT i true H₀ G H ow a with
  | none=>rfl
  | some t'=>have:=(nv z).1;rw [q] at this;cases this;exact absurd rfl nj
 have gn:∀ a o,H a=some o->G a=none->oT i true H₀ G H ow a=none->G' a=none:=fun a o q g n=>by
  cases z:G' a with
  | none=>rfl
  | some o'=>
   rcases u.fr a o' z with z|z
   ·rw [g] at z;cases z
   ·rw [jd n,q] at z;cases z
 have up:Up G₀ H₀ G' H':=by
  refine ⟨u.sub,s.up.gg.trans u.gg,fun a o q=>keep a o (s.up.hh a o q) (out0 a (by rw [q];simp)),fun a o q=>?_⟩
  rcases u.fr a o q with z|z
  ·exact s.up.fr a o z
  ·by_cases n:oT i true H₀ G H ow a=none
   ·rw [jd n] at z;exact .inr (s.up.hh.free z)
   ·cases y:oT i true H₀ G H ow a with
    | none=>exact absurd y n
    | some t=>exact .inr ((nv y).2.2.2 rfl)
 have ob':ObSt K H₀ G' H' σ (ρ.set i (some (.obj true C p fs'))):=by
  refine ⟨fun a=>open Classical in if hid H (oT i true H₀ G H ow) a=none then uD 0 i ow' a else ow a,fun j ds l h1 h2=>?_,fun j m' C' p' fs'' h1=>?_⟩
  ·rcases get j _ h1 with ⟨_,z⟩|⟨nj,f1⟩
   ·cases z
   ·have ol:=o1 j ds l f1 h2
    obtain ⟨l2,vs,q1,q2,_⟩:=s.own j ds f1
    rw [h2] at q1;cases q1
    have n:=outT l j 0 nj ol
    refine (if_neg ?_).trans ol
    rw [jd n,q2];simp
  ·rcases get j _ h1 with ⟨rfl,z⟩|⟨nj,f1⟩
   ·cases z
    refine ⟨(o2 j true C p fs e).1,?_⟩
    refine ob.newtag (fun a t q n=>(if_pos n).trans (rh q)) fun a n=>?_
    by_cases y:oT j true H₀ G H ow a=none
    ·rw [jd y] at n;exact s.up.hh.free n
    ·cases y':oT j true H₀ G H ow a with
     | none=>exact absurd y' y
     | some t=>exact (nv y').2.2.2 rfl
   ·refine ⟨(o2 j m' C' p' fs'' f1).1,(o2 j m' C' p' fs'' f1).2.keep ⟨fun a t o q1 q=>keep a o q (outT a j t nj q1),u.gg,fun a t o q1 q n=>gn a o q n (outT a j t nj q1),fun a t o q1 q=>?_,fun a o _ _ n=>n⟩⟩
    refine (if_neg ?_).trans q1
    rw [jd (outT a j t nj q1),q];simp
 refine ⟨⟨u.sub,by simp [s.e.len],fun j d h=>?_,ob'.rd⟩,s.sub0,up,fun j ds h=>?_,fun j k ds es l q1 q2 q3 q4=>?_,ob'⟩
 ·rcases get j _ h with ⟨_,z⟩|⟨_,f1⟩
  ·cases z
  ·obtain ⟨v,p1,p2⟩:=s.e.val j d f1
   exact ⟨v,p1,p2.mono u.gg⟩
 ·rcases get j _ h with ⟨_,z⟩|⟨nj,f1⟩
  ·cases z
  ·obtain ⟨l,vs,p1,p2,p3,p4,p5⟩:=s.own j ds f1
   have n:=outT l j 0 nj (o1 j ds l f1 p1)
   exact ⟨l,vs,p1,keep l _ p2 n,gn l _ p2 p3 n,p4,p5.mono u.gg⟩
 ·rcases get j _ q1 with ⟨_,z⟩|⟨nj,f1⟩
  ·cases z
  ·rcases get k _ q2 with ⟨_,z⟩|⟨nk,f2⟩
   ·cases z
   ·exact s.inj j k ds es l f1 f2 q3 q4
end L2
variable {I_offer_with_order:L2.MF}
namespace L2
open PySem PySem.Spec PyProof.Rows
noncomputable def ug (k:Nat) (fd:Fd):List (Nat×Fd)->List (Nat×Fd)
 | []=>[(k,fd)]
 | (j,x)::r=>if j=k then (j,fd)::r else (j,x)::ug k fd r
theorem StR.objTo {K:PySem.W.Frag} {H₀:Hp} {p:Addr} {fs:List (Nat×Fd)} {ow2:li} (s:StR K G₀ H₀ G H σ ρ) (e:ρ[i]?=some (some (.obj true C p fs))) (o1:∀ (j:Nat) ds l,ρ[j]?=some (some (.own ds))->σ[j]?=some (some (.ref l))->ow l=some (j,0))
 (o2:∀ (j:Nat) m C p fs,ρ[j]?=some (some (.obj m C p fs))->σ[j]?=some (some (.ref p))/\ObjAt K H₀ G H ow j m C p fs)
 (hh:∀ a o,H a=some o->(∀ t,ow a≠some (i,t))->H' a=some o) (h0:Same H₀ H') (sub:Same G H') (oo:∀ a j t o,j≠i->ow a=some (j,t)->H a=some o->ow2 a=some (j,t)) (ob:ObjAt K H₀ G H' ow2 i true C p fs'):StR K G₀ H₀ G H' σ (ρ.set i (some (.obj true C p fs'))):=by
 have hl:i<ρ.length:=(List.getElem?_eq_some_iff.mp e).1
 have get:∀ (j:Nat) x,(ρ.set i (some (.obj true C p fs')))[j]?=some (some x)->(j=i/\x=.obj true C p fs')\/(j≠i/\ρ[j]?=some (some x)):=fun j x h=>by
  by_cases z:i=j
  ·subst z
   rw [List.getElem?_set_self hl] at h
   exact .inl ⟨rfl,by injection (Option.some.inj h) with q;exact q.symm⟩
  ·rw [List.getElem?_set_ne z] at h
   exact .inr ⟨fun q=>z q.symm,h⟩
 have ob':ObSt K H₀ G H' σ (ρ.set i (some (.obj true C p fs'))):=by
  refine ⟨ow2,fun j ds l h1 h2=>?_,fun j m' C' p' fs'' h1=>?_⟩
  ·rcases get j _ h1 with ⟨_,z⟩|⟨nj,f1⟩
   ·cases z
   ·obtain ⟨l2,vs,q1,q2,_⟩:=s.own j ds f1
    rw [h2] at q1;cases q1
    exact oo l j 0 _ nj (o1 j ds l f1 h2) q2
  ·rcases get j _ h1 with ⟨rfl,z⟩|⟨nj,f1⟩
   ·cases z;exact ⟨(o2 j true C p fs e).1,ob⟩
   ·exact ⟨(o2 j m' C' p' fs'' f1).1,(o2 j m' C' p' fs'' f1).2.keep ⟨fun a t o q1 q=>hh a o q (fun t' z=>by rw [q1] at z;cases z;exact nj rfl),.refl _,fun a t o _ _ n=>n,fun a t o q1 q=>oo a j t o nj q1 q,fun a o _ _ n=>n⟩⟩
 refine ⟨⟨sub,by simp [s.e.len],fun j d h=>?_,ob'.rd⟩,s.sub0,⟨sub,s.up.gg,h0,s.up.fr⟩,fun j ds h=>?_,fun j k ds es l q1 q2 q3 q4=>?_,ob'⟩
 ·rcases get j _ h with ⟨_,z⟩|⟨_,f1⟩
  ·cases z
  ·exact s.e.val j d f1
 ·rcases get j _ h with ⟨_,z⟩|⟨nj,f1⟩
  ·cases z
  ·obtain ⟨l,vs,p1,p2,p3,p4,p5⟩:=s.own j ds f1
   exact ⟨l,vs,p1,hh l _ p2 (fun t z=>by rw [o1 j ds l f1 p1] at z;cases z;exact nj rfl),p3,p4,p5⟩
 ·rcases get j _ q1 with ⟨_,z⟩|⟨nj,f1⟩
  ·cases z
  ·rcases get k _ q2 with ⟨_,z⟩|⟨nk,f2⟩
   ·cases z
   ·exact s.inj j k ds es l f1 f2 q3 q4
noncomputable def Eb (C:Addr) (ρ:Ev) (i:Nat):R (List (Nat×Fd)):=match ρ[i]? with
 | some (some (.obj _ C' _ fs))=>if C'=C then .ok fs else .no
 | _=>.no
noncomputable def yb (C:Addr) (ρ:Ev) (i:Nat):R (Addr×List (Nat×Fd)):=match ρ[i]? with
 | some (some (.obj true C' p fs))=>if C'=C then .ok (p,fs) else .no
 | _=>.no
noncomputable def GE (fs:List (Nat×Fd)) (k:Nat):R (List D):=match fs.lookup k with
 | some (.own ds)=>.ok ds
 | _=>.no
noncomputable def Jf (C:Addr) (i k:Nat) (gb:Ev->R D):Ev->R D:=fun ρ=>Eb C ρ i>>=fun fs=>GE fs k>>=fun ds=>gb ρ>>=fun d=>ofO (ixD (.lst false ds) d)
noncomputable def Gp (C:Addr) (i k:Nat):Ev->R D:=fun ρ=>Eb C ρ i>>=fun fs=>GE fs k>>=fun ds=>.ok (.int ds.length)
noncomputable def KK (C:Addr) (i k:Nat) (ga:Ev->R D):Ev->O:=fun ρ=>(yb C ρ i).out ρ fun o=>(GE o.2 k).out ρ fun ds=>(ga ρ).out ρ fun d=>if ds.length<sizeLine then .nx (ρ.set i (some (.obj true C o.1 (ug k (.own (ds++[d])) o.2)))) else .no
noncomputable def K8 (C:Addr) (i k:Nat) (gl:Ev->R (List D)):Ev->O:=fun ρ=>(yb C ρ i).out ρ fun o=>(gl ρ).out ρ fun ds=>if o.2.length<900 then .nx (ρ.set i (some (.obj true C o.1 (ug k (.own ds) o.2)))) else .no
noncomputable def Lb (ga:Ev->R D):Ev->O:=fun ρ=>(ga ρ).out ρ fun d=>.re d ρ
structure CF (K:PySem.W.Frag) (C:Addr) (ks:List Nat):Prop where
 cl:Cls K C
 ne:C≠DC
 na:∀ k∈ks,k<fnames.length/\Hn K C (Hy k)
theorem Fp {H₀:Hp} {D:Ends} {k:Addr×List (Nat×Fd)->O} (h:lj X G₀ H₀ D ((yb C ρ i).out ρ k)):∃ p fs,ρ[i]?=some (some (.obj true C p fs))/\lj X G₀ H₀ D (k (p,fs)):=by
 unfold yb at h
 split at h
 ·rename_i C' p fs e
  by_cases z:C'=C
  ·subst z;rw [if_pos rfl] at h;exact ⟨p,fs,e,h⟩
  ·rw [if_neg z] at h;exact h.elim
 ·exact h.elim
structure MCallee (P:Program) (w:World) (K:PySem.W.Frag) (mg:Str->Option Value) (base:Heap) (C:Addr) (mn:Str) (k n:Nat) (F:MF):Prop where
 ex:∃ f fd ps,FnM P w K mg base k f fd ps C F/\Meth K C mn f/\Binds K fd ps []/\ps.length=n+1
section
variable {X:Cx} {pins:List (Addr×Obj)} {σ:St} {G H:Hp} {s:Shared} {k n:Nat} {f:Addr} {fd:FuncData} {ps:List Str} {C p:Addr} {F:MF} {us:List Value} {vs:List V} {ds:List D} {fs:List (Nat×Fd)} {ow:li} {Q:VK}
theorem Cn (M:FnM X.prog X.w X.K X.mg X.base k f fd ps C F) (hr:Room k X.A) (hb:Binds X.K fd ps []) (hl:ps.length=n+1) (I:Inv X pins σ H s) (r:Vals vs us) (rp:Reps X.K G vs ds) (hn:ds.length=n) (sub:Same G H) (og:∀ a t,ow a=some t->G a=none)
 (ob:ObjAt X.K (fun _=>none) G H ow 0 true C p fs) (h:match F fs ds with
 | .ok d fs'=>∀ v G' H' ow',Up G (hid H ow) G' H'->ObjAt X.K (hid H ow) G' H' ow' 0 true C p fs'->Rep X.K G' v d->Q v H'
 | .rd d=>∀ v G' H',Up G H G' H'->Rep X.K G' v d->Q v H'
 | .ex C'=>Exx X σ G H C'
 | .no=>False):wpAny (model X.prog X.w) X.A (call (.ref f) (.ref p::us)) (EP X pins σ Q) X.xe s:=by
 have hvl:(V.ref p::vs).length=ps.length:=by rw [hl,List.length_cons,rp.length,hn]
 have hul:(Value.ref p::us++[]).length=ps.length:=by rw [List.append_nil,List.length_cons,<- r.length,<- List.length_cons (a:=V.ref p)];exact hvl
 have hbb:=hb s (.ref p::us) I.kIn hul
 rw [List.append_nil] at hbb
 refine wpAny_call (codeAny_mono (M.run X.A X.stack s H ⟨.ref p::us,[]⟩ (.ref p::us) (.ref p::vs) Q (fun c _ H'=>∃ C G',c=.ref C/\Up G H G' H'/\Exx X σ G H C) hr I.env0 hbb (.cons rfl r) ⟨hvl,G,p,vs,ds,fs,ow,rfl,rp,sub,og,ob,?_⟩) fun r' s' hq=>?_)
 ·cases q:F fs ds with
  | ok d fs'=>rw [q] at h;exact h
  | rd d=>rw [q] at h;exact h
  | ex C'=>rw [q] at h;exact fun G' H' u=>⟨C',G',rfl,u,h⟩
  | no=>rw [q] at h;exact h.elim
 ·cases r' with
  | error e'=>
   obtain ⟨a,C,H',rfl,fl,C',G',ec,u,q⟩:=hq
   cases ec
   exact q _ _ ⟨G,H,.refl sub,pins,s,a,rfl,I,.inr (.inl ⟨G',H',fl,u⟩)⟩
  | ok fl=>
   cases fl with
   | ret u=>exact I.after hq
   | _=>exact False.elim hq
end
def RM.read:RM->R D
 | .rd d=>.ok d
 | .ex C=>.ex C
 | _=>.no
noncomputable def HU (C:Addr) (i n:Nat) (F:MF) (gl:Ev->R (List D)):Ev->R D:=fun ρ=>Eb C ρ i>>=fun fs=>gl ρ>>=fun ds=>if ds.length=n then (F fs ds).read else .no
noncomputable def F0 (C:Addr) (i:Nat) (F:MF):Ev->R D:=fun ρ=>Eb C ρ i>>=fun fs=>(F fs []).read
noncomputable def RM.out (r:RM) (C p:Addr) (i:Nat) (ρ:Ev):O:=match r with
 | .ok _ fs'=>.nx (ρ.set i (some (.obj true C p fs')))
 | .rd _=>.nx ρ
 | .ex E=>.ex E ρ
 | .no=>.no
noncomputable def JZ (C:Addr) (i n:Nat) (F:MF) (gl:Ev->R (List D)):Ev->O:=fun ρ=>(yb C ρ i).out ρ fun o=>(gl ρ).out ρ fun ds=>if ds.length=n then (F o.2 ds).out C o.1 i ρ else .no
noncomputable def GI (C:Addr) (i:Nat) (F:MF):Ev->O:=fun ρ=>(yb C ρ i).out ρ fun o=>(F o.2 []).out C o.1 i ρ
structure MkC (P:Program) (w:World) (K:PySem.W.Frag) (mg:Str->Option Value) (base:Heap) (C:Addr) (cn:Str) (k n:Nat) (F:MF):Prop where
 ex:∃ f fd ps,FnM P w K mg base k f fd ps C F/\Mk K C f/\mg cn=some (.ref C)/\Binds K fd ps []/\ps.length=n+1
 ne:C≠DC
theorem StR.setObj {K:PySem.W.Frag} {H₀ G':Hp} {x:Addr} {fs:List (Nat×Fd)} {ow':li} (s:StR K G₀ H₀ G H σ ρ) (u:Up G H G' H') (ob:ObjAt K H G' H' ow' 0 true C x fs) (i:Nat):StR K G₀ H₀ G' H' (σ.set i (some (.ref x))) (ρ.set i (some (.obj true C x fs))):=by
 have get:∀ (j:Nat) y,(ρ.set i (some (.obj true C x fs)))[j]?=some (some y)->(j=i/\y=.obj true C x fs/\i<σ.length)\/(j≠i/\ρ[j]?=some (some y)/\(σ.set i (some (.ref x)))[j]?=σ[j]?):=fun j y h=>by
  by_cases e:i=j
  ·subst e
   have hl:i<ρ.length:=by
    have:=(List.getElem?_eq_some_iff.mp h).1
    simpa using this
   rw [List.getElem?_set_self hl] at h
   exact .inl ⟨rfl,by injection (Option.some.inj h) with q;exact q.symm,by rw [s.e.len];exact hl⟩
  ·rw [List.getElem?_set_ne e] at h
   exact .inr ⟨fun z=>e z.symm,h,List.getElem?_set_ne e⟩
 have s1:=s.ups u
 have ob':ObSt K H₀ G' H' (σ.set i (some (.ref x))) (ρ.set i (some (.obj true C x fs))):=by
  obtain ⟨ow,o1,o2⟩:=s.ob
  refine ⟨fun a=>open Classical in if H a=none then uD 0 i ow' a else ow a,fun j ds l h1 h2=>?_,fun j m' C' p' fs' h1=>?_⟩
  ·rcases get j _ h1 with ⟨_,z,_⟩|⟨nj,f1,f2⟩
   ·cases z
   ·rw [f2] at h2
    obtain ⟨l2,vs,q1,q2,_⟩:=s.own j ds f1
    rw [h2] at q1;cases q1
    exact (if_neg (by rw [q2];simp)).trans (o1 j ds l f1 h2)
  ·rcases get j _ h1 with ⟨rfl,z,hj⟩|⟨nj,f1,f2⟩
   ·cases z
    exact ⟨List.getElem?_set_self hj,ob.newtag (fun a t q n=>(if_pos n).trans (rh q)) fun a n=>s.up.hh.free n⟩
   ·rw [f2]
    have ku:ObKeep H₀ H₀ G H G' H' ow ow j:=.up u
    exact ⟨(o2 j m' C' p' fs' f1).1,(o2 j m' C' p' fs' f1).2.keep ⟨ku.hh,ku.gg,ku.gn,fun a t o q1 q2=>(if_neg (by rw [q2];simp)).trans q1,ku.h0⟩⟩
 refine ⟨⟨s1.e.sub,by simp [s1.e.len],fun j d h=>?_,ob'.rd⟩,s1.sub0,s1.up,fun j ds h=>?_,fun j k ds es l q1 q2 q3 q4=>?_,ob'⟩
 ·rcases get j _ h with ⟨_,z,_⟩|⟨_,f1,f2⟩
  ·cases z
  ·rw [f2];exact s1.e.val j d f1
 ·rcases get j _ h with ⟨_,z,_⟩|⟨nj,f1,f2⟩
  ·cases z
  ·rw [f2];exact s1.own j ds f1
 ·rcases get j _ q1 with ⟨_,z,_⟩|⟨nj,f1,f2⟩
  ·cases z
  ·rcases get k _ q2 with ⟨_,z,_⟩|⟨nk,f3,f4⟩
   ·cases z
   ·exact s1.inj j k ds es l f1 f3 (f2 ▸ q3) (f4 ▸ q4)
noncomputable def NL {α:Type} (X:Cx) (sts:List Stmt) (g:α->Ev->O):Prop:=∀ G₀ H₀,PSs X sts (fun D σ H=>∃ G ρ,StR X.K G₀ H₀ G H σ ρ/\∀ q,lj X G₀ H₀ D (g q ρ))
section
variable {X:Cx} {st:Stmt} {cJ:List Stmt} {g1:Ev->O} {gs:Ev->O} {α:Type} {g2:α->Ev->O} {e:Expr} {es:List Expr} {gl gl':Ev->R (List D)} {cn:Str} {k n:Nat} {C:Addr} {F:MF} {p pos:Pos}
def Gk (g:Ev->O):Unit->Ev->O:=fun _=>g
end
noncomputable def D2 (X:Cx) (G₀ H₀:Hp) (σ:St) (Q:VK) (o:O):Prop:=match o with
 | .re d ρ=>∀ v G H,StR X.K G₀ H₀ G H σ ρ->Rep X.K G v d->Q v H
 | .ex C ρ=>∀ e s',FlyS X G₀ H₀ ρ C e s'->X.xe e s'
 | _=>False
noncomputable def tX (X:Cx) (G₀ H₀:Hp) (g:Ev->O):TE:=fun σ H Q=>∃ G ρ,StR X.K G₀ H₀ G H σ ρ/\D2 X G₀ H₀ σ Q (g ρ)
noncomputable def QFX (X:Cx) (e:Expr) (g:Ev->O):Prop:=∀ G₀ H₀,PE X e (tX X G₀ H₀ g)
noncomputable def O.thenX (o:O) (k:D->Ev->O):O:=match o with
 | .re d ρ=>k d ρ
 | .ex C ρ=>.ex C ρ
 | _=>.no
section
variable {X:Cx} {e a b c:Expr} {cJ:List Expr} {g g1 g2:Ev->O} {ga gb:Ev->R D} {gt:Ev->R Bool} {pos:Pos} {s1 s2:List Stmt} {h1 h2:Ev->O}
theorem Exx.fly {H₀:Hp} (sr:StR X.K G₀ H₀ G H σ ρ) (h:∀ e s',FlyS X G₀ H₀ ρ C e s'->X.xe e s'):Exx X σ G H C:=fun e s' ⟨G1,H1,u,f⟩=>h e s' (.of (sr.ups u) f)
theorem tX.read {α β:Type} {rep:Hp->β->α->Prop} {H₀:Hp} {m:Ev->R α} {Q:β->Hp->Prop} (sr:StR X.K G₀ H₀ G H σ ρ) (hk:∀ a,m ρ=.ok a->∀ v G1 H1,Up G H G1 H1->StR X.K G₀ H₀ G1 H1 σ ρ->rep G1 v a->Q v H1) (he:∀ C,m ρ=.ex C->∀ e s',FlyS X G₀ H₀ ρ C e s'->X.xe e s') (hn:m ρ ≠ .no):tG X rep m σ H Q:=by
 refine ⟨G,ρ,sr.e,?_⟩
 cases q:m ρ with
 | ok a=>exact fun v G' H' u r=>hk a q v G' H' u (sr.ups u) r
 | ex C=>exact Exx.fly sr (he C q)
 | no=>exact absurd q hn
end
noncomputable def JM (C:Addr) (ρ:Ev) (i:Nat):R (Bool×Addr×List (Nat×Fd)):=match ρ[i]? with
 | some (some (.obj m C' p fs))=>if C'=C then .ok (m,p,fs) else .no
 | _=>.no
noncomputable def RM.outX (r:RM) (m:Bool) (C p:Addr) (i:Nat) (ρ:Ev):O:=match r with
 | .ok d fs'=>if m=true then .re d (ρ.set i (some (.obj true C p fs'))) else .no
 | .rd d=>.re d ρ
 | .ex E=>.ex E ρ
 | .no=>.no
noncomputable def jW (C:Addr) (i n:Nat) (F:MF) (gl:Ev->R (List D)):Ev->O:=fun ρ=>(JM C ρ i).out ρ fun o=>(gl ρ).out ρ fun ds=>if ds.length=n then (F o.2.2 ds).outX o.1 C o.2.1 i ρ else .no
theorem FR {H₀:Hp} {Q:VK} {k:Bool×Addr×List (Nat×Fd)->O} (h:D2 X G₀ H₀ σ Q ((JM C ρ i).out ρ k)):∃ m p fs,ρ[i]?=some (some (.obj m C p fs))/\D2 X G₀ H₀ σ Q (k (m,p,fs)):=by
 unfold JM at h
 split at h
 ·rename_i m C' p fs e
  by_cases z:C'=C
  ·subst z;rw [if_pos rfl] at h;exact ⟨m,p,fs,e,h⟩
  ·rw [if_neg z] at h;exact h.elim
 ·exact h.elim
section
variable {X:Cx} {e:Expr} {es:List Expr} {gl:Ev->R (List D)} {x y mn:Str} {i k n:Nat} {C:Addr} {ks:List Nat} {F:MF} {p1 ap pos ep:Pos}
theorem HK {H₀:Hp} {Q:VK} {Q':List V->Hp->Prop} {r:List D->O} (sr:StR X.K G₀ H₀ G H σ ρ) (h:D2 X G₀ H₀ σ Q ((gl ρ).out ρ fun ds=>if ds.length=n then r ds else .no))
 (hk:∀ vs G1 H1 ds,StR X.K G₀ H₀ G1 H1 σ ρ->Reps X.K G1 vs ds->ds.length=n->D2 X G₀ H₀ σ Q (r ds)->Q' vs H1):tAF X gl σ H Q':=by
 refine tX.read sr (fun ds e vs G1 H1 u s1 rr=>?_) (fun C e=>?_) fun e=>?_
 ·rw [e] at h
  have h:D2 X G₀ H₀ σ Q (if ds.length=n then r ds else .no):=h
  by_cases hz:ds.length=n
  ·rw [if_pos hz] at h;exact hk vs G1 H1 ds s1 rr hz h
  ·rw [if_neg hz] at h;exact h.elim
 ·rw [e] at h;exact h
 ·rw [e] at h;exact h
theorem xM {H₀:Hp} {p:Addr} {fs:List (Nat×Fd)} {Q:VK} {mm:Bool}
 (M:FnM X.prog X.w X.K X.mg X.base k f fd ps C F) (hr:Room k X.A) (hb:Binds X.K fd ps []) (hl:ps.length=n+1) (I:Inv X pins σ H s) (r:Vals vs us) (rp:Reps X.K G vs ds) (hz:ds.length=n) (sr:StR X.K G₀ H₀ G H σ ρ) (e1:ρ[i]?=some (some (.obj mm C p fs)))
 (h:D2 X G₀ H₀ σ Q ((F fs ds).outX mm C p i ρ)):wpAny (model X.prog X.w) X.A (call (.ref f) (.ref p::us)) (EP X pins σ Q) X.xe s:=by
 obtain ⟨ow1,o1,o2⟩:=sr.ob
 obtain ⟨_,ob1⟩:=o2 i mm C p fs e1
 refine Cn M hr hb hl I r rp hz sr.e.sub (fun a t q=>(nv q).2.2.1) ob1.cut ?_
 cases q:F fs ds with
 | ok d fs'=>
  rw [q] at h
  cases mm with
  | false=>exact h.elim
  | true=>exact fun v G' H' ow' u ob rv=>h v G' H' (sr.meth e1 o1 o2 u ob) rv
 | rd d=>rw [q] at h;exact fun v G' H' u rv=>h v G' H' (sr.ups u) rv
 | ex C'=>rw [q] at h;exact Exx.fly sr h
 | no=>rw [q] at h;exact h.elim
end
structure CalleeM (P:Program) (w:World) (K:PySem.W.Frag) (mg:Str->Option Value) (base:Heap) (C:Addr) (x:Str) (k n:Nat) (F:MF):Prop where
 ex:∃ f fd ps,FnM P w K mg base k f fd ps C F/\mg x=some (.ref f)/\PySem.W.keepIn K (.ref f)=true/\Binds K fd ps []/\ps.length=n+1
theorem CalleeM.mono {w:World} {K:PySem.W.Frag} {mg:Str->Option Value} {base:Heap} {n:Nat} {F:MF} (c:CalleeM P w K mg base C x k n F) (k':Nat) (h:k<=k':=by decide):CalleeM P w K mg base C x k' n F:=by
 obtain ⟨f,fd,ps,M,hm,hk,hb,e⟩:=c.ex
 exact ⟨f,fd,ps,{ M with run:=fun A outer s H args us vs Q E hr=>M.run A outer s H args us vs Q E (hr.mono h) },hm,hk,hb,e⟩
noncomputable def Jr (P:Program) (w:World) (K:PySem.W.Frag) (mg:Str->Option Value) (base:Heap) (k:Nat) (s1:Shared) (G1 H1:Hp) (f:Addr) (Q:VK):Prop:=
 ∀ (Y:Cx) (pins:List (Addr×Obj)) (σY:St) (G2 H2:Hp) (s2:Shared) (fs:List Addr),Y.prog=P->Y.w=w->Y.K=K->Y.mg=mg->Y.base=base->Inv Y pins σY H2 s2->Room k Y.A->Un fs [] H1 H2 s1.heap s2.heap->Up G1 H1 G2 H2->
  (∃ o fd,s2.heap.get? f=some o/\o.data=.func fd)/\wpAny (model Y.prog Y.w) Y.A (call (.ref f) []) (EP Y pins σY Q) Y.xe s2
structure ToldOk (P:Program) (w:World) (K:PySem.W.Frag) (mg:Str->Option Value) (base:Heap) (x:Str) (k j:Nat):Prop where
 ex:∃ ft,mg x=some (.ref ft)/\PySem.W.keepIn K (.ref ft)=true/\∀ (A:Around) (outer:List Env) (s1:Shared) (G1 H1:Hp) (f:Addr) (Q:VK) (E:XK),Room k A->Env0 P w K mg base A outer s1 H1->Same G1 H1->Jr P w K mg base j s1 G1 H1 f Q->
  codeAny (model P w) A (.call (.ref ft) ⟨[.ref f],[]⟩) (CR (CXo P w) outer P w H1 s1 Q E) s1
section
variable {X:Cx} {pos:Pos}
noncomputable def LP (i j k:Nat) (ta:TA):TS:=fun D σ H=>ta σ H fun vs H1=>∃ v w u,vs=[v,w,u]/\D.nx (((σ.set i (some v)).set j (some w)).set k (some u)) H1
theorem Gu {z:Str} {a b c:Expr} {ta:TA} {px py pz pt:Pos} {kt k2 pt2} (hc:X.calm=true) (hN:X.N.Nodup) (hi:X.N[i]?=some x) (hj:X.N[j]?=some y) (hk:X.N[k]?=some z) (hij:i≠j) (hik:i≠k) (hjk:j≠k)
 (hx:X.env.scope.names.lookup x=some .local) (hy:X.env.scope.names.lookup y=some .local) (hz:X.env.scope.names.lookup z=some .local) (ha:PA X [a,b,c] ta)
 (hw:swappedStores [.Tuple [.Name x px,.Name y py,.Name z pz] kt pt] (.Tuple [a,b,c] k2 pt2) X.env=pure (some [x,y,z]))
 (hs:swapsWithSole [.Tuple [.Name x px,.Name y py,.Name z pz] kt pt] (.Tuple [a,b,c] k2 pt2) pos.line X.env=pure false:=by rfl) :
  PS X (.Assign [.Tuple [.Name x px,.Name y py,.Name z pz] kt pt] (.Tuple [a,b,c] k2 pt2) pos) (LP i j k ta):=by
 intro pins s σ H D I h
 rw [exec_Assign_arm]
 refine wpAny_bind (wpAny_standAt ?_)
 rw [hs]
 refine wpAny_bind (wpAny_pure ?_)
 rw [if_neg (by decide)]
 refine wpAny_bind (Tuple_ (thn (ha _ pins s σ H _ I h) fun us s1 ⟨vs,H1,I1,r1,q1⟩=>?_))
 obtain ⟨v,w,u,e1,q1⟩:=q1
 subst e1
 obtain ⟨u1,u2,u3,rfl,rv,rw',ru⟩:∃ u1 u2 u3,us=[u1,u2,u3]/\RelV v u1/\RelV w u2/\RelV u u3:=by
  cases r1 with
  | cons p q=>
   cases q with
   | cons p' q'=>
    cases q' with
    | cons p'' q''=>
     cases q''
     exact ⟨_,_,_,rfl,p,p',p''⟩
 refine wpAny_newObj_type ?_ (by show 3<=sizeLine;decide)
 have I2:Inv X pins σ H1 { s1 with heap:=s1.heap.push { cls:=.type "tuple",data:=.seq [u1,u2,u3].toArray } }:=I1.kept (t':=s1.toks) fun b o e=>Heap.get?_push_of_some _ e
 rw [hw]
 refine wpAny_bind (wpAny_pure ?_)
 show wpAny (model X.prog X.w) X.A (do rule "assign.swapped-stores";let items <- unpackItems (.ref s1.heap.objs.size) 3 none;assignInOrder [fun v=>bindName X.env z v,fun v=>bindName X.env y v,fun v=>bindName X.env x v] items.reverse;pure Flow.next) _ _ _
 refine wpAny_bind (wpAny_rule (wpAny_bind (unpackItems_tuple (items:=#[u1,u2,u3]) (I.ok.hd hc) (IsTup.new s1.heap _) fun h' hx'=>?_)))
 have I3:=I2.kept (h':=h') (t':=s1.toks) fun b o e=>hx' b o (Nat.ne_of_lt (Heap.lt_size e)) e
 show wpAny _ _ (assignInOrder [fun v=>bindName X.env z v,fun v=>bindName X.env y v,fun v=>bindName X.env x v] [u3,u2,u1]>>=fun _=>pure Flow.next) _ _ _
 refine wpAny_bind (assignInOrder_cons (wpAny_bindName (lN I3 hN hk (.inl hz) ru (fun s2 I4=>?_) (.inr hz))))
 refine assignInOrder_cons (wpAny_bindName (lN I4 hN hj (.inl hy) rw' (fun s3 I5=>?_) (.inr hy)))
 refine assignInOrder_cons (wpAny_bindName (lN I5 hN hi (.inl hx) rv (fun s4 I6=>assignInOrder_nil (wpAny_pure ?_)) (.inr hx)))
 rw [List.set_comm _ _ (Ne.symm hij),List.set_comm _ _ (Ne.symm hik),List.set_comm _ _ (Ne.symm hjk)] at I6
 exact ⟨_,H1,I6,q1⟩
end
def eV (g:Ev->O):Ev->O:=fun ρ=>(g ρ).thenX fun _ ρ'=>.nx ρ'
end L2
namespace L2
open PySem PySem.Spec PyProof.Rows
open PySem.AutoSeq1 (wpAny_loadPart')
open PySem.MeetsSeq PySem.MeetsSeq2 PySem.MeetsSeq3
inductive NumPairs:List (Value×Value)->List Int->List Int->Prop
 | nil:NumPairs [] [] []
 | cons {zs:List (Value×Value)} {xs ys:List Int} (i:Int) (t:Addr) (j:Int) (u:Addr) (r:NumPairs zs xs ys):NumPairs ((.int i t,.int j u)::zs) (i::xs) (j::ys)
end L2
namespace L2
open PySem PySem.Spec PyProof.Rows
section
variable {X:Cx} {elt iter:Expr} {ifs:List Expr} {x:Str} {px pos:Pos} {scope:Scope} {gi:Ev->R (List D)} {gt:Ev->R Bool} {ge:Ev->R D}
structure CompOkC (X:Cx) (scope:Scope) (x:Str):Prop where
 kind:scope.kind=.function
 names:∀ y∈scope.names,y.2=.local->scope.names.lookup y.1=some .local
 nofree:∀ y∈scope.names,y.2 ≠ .free
 cells:∀ L,cellsFrom L scope.names []=[(x,L)]
 lk:scope.names.lookup x=some .cell
 only:∀ y,scope.names.lookup y=some .cell->y=x
end
abbrev TF:=List (Nat×Fd)->Option (List (Nat×Fd))
noncomputable def spT (K:PySem.W.Frag) (C:Addr) (F:TF):Sp:=fun vs H Q E=>∃ G p fs ow,vs=[.ref p]/\Same G H/\(∀ a t,ow a=some t->G a=none)/\ObjAt K (fun _=>none) G H ow 0 true C p fs/\
 ∃ fs',F fs=some fs'/\∀ x G' H' ow',Up G H G' H'->ObjAt K H G' H' ow' 0 true C x fs'->Q (.ref x) H'
noncomputable abbrev FnT (P:Program) (w:World) (K:PySem.W.Frag) (mg:Str->Option Value) (base:Heap) (k:Nat) (f:Addr) (fd:FuncData) (ps:List Str) (C:Addr) (F:TF):Prop:=FnOk P w K mg base (CXo P w) k f fd ps (fun vs H Q E=>vs.length=ps.length/\spT K C F vs H Q E)
structure TCallee (P:Program) (w:World) (K:PySem.W.Frag) (mg:Str->Option Value) (base:Heap) (C:Addr) (mn:Str) (k:Nat) (F:TF):Prop where
 ex:∃ f fd ps,FnT P w K mg base k f fd ps C F/\Meth K C mn f/\Binds K fd ps []/\ps.length=1
noncomputable def ue:D->Option Nat
 | .tup [.bl a,.bl b]=>some (code a b)
 | _=>none
noncomputable def fvs:List (Nat×Fd)->Option (List (Nat×D))
 | []=>some []
 | (k,.val d)::r=>(fvs r).map ((k,d)::·)
 | (_,.own _)::_=>none
noncomputable def tz (ρ:Ev) (i:Nat):R (List (Nat×D)):=match ρ[i]? with
 | some (some (.val (.dct ks ds)))=>.ok (ks.zip ds)
 | some (some (.obj _ C _ fs))=>if C=DC then ofO (fvs fs) else .no
 | _=>.no
theorem zB (e:tz ρ i=.ex C):False:=by
 unfold tz at e
 split at e
 ·cases e
 ·split at e
  ·revert e;unfold ofO;split <;> exact fun z=>nomatch z
  ·cases e
 ·cases e
theorem uI:∀ (ks:List Nat) (ds:List D),fvs (ks.zip (ds.map Fd.val))=some (ks.zip ds)
 | [],_=>rfl
 | _::_,[]=>rfl
 | k::ks,d::ds=>by simp only [List.map_cons,List.zip_cons_cons,fvs,uI ks ds,Option.map_some]
theorem wm:∀ a b c d:Bool,code a b=code c d->a=c/\b=d:=by decide
section
variable {K:PySem.W.Frag} {G H:Hp}
theorem KeysAt.inH (s:Same G H):∀ {xs:DX} {ks:List Nat},KeysAt K G xs ks->iw K H xs
 | _,_,.nil,x,hx=>nomatch hx
 | _,_,.cons h t,x,hx=>by
  rcases List.mem_cons.1 hx with rfl|hx
  ·exact h.mono s
  ·exact KeysAt.inH s t x hx
theorem KeysAt.twos:∀ {xs:DX} {ks:List Nat},KeysAt K G xs ks->Kw xs
 | _,_,.nil,x,hx=>nomatch hx
 | _,_,.cons h t,x,hx=>by
  rcases List.mem_cons.1 hx with rfl|hx
  ·exact ⟨_,_,rfl⟩
  ·exact KeysAt.twos t x hx
theorem KeysAt.length:∀ {xs:DX} {ks:List Nat},KeysAt K G xs ks->xs.length=ks.length
 | _,_,.nil=>rfl
 | _,_,.cons _ t=>by simp [t.length]
theorem KeysAt.look {a b:Bool}:∀ {xs:DX} {ks:List Nat} {ds:List D},KeysAt K G xs ks->Reps K G (xs.map (·.2.2)) ds->
  ((ks.zip ds).lookup (code a b)=none/\oS xs [a,b]=none)\/∃ d v,(ks.zip ds).lookup (code a b)=some d/\oS xs [a,b]=some v/\Rep K G v d
 | _,_,_,.nil,.nil=>.inl ⟨rfl,rfl⟩
 | _,_,_,.cons (a:=c) (b:=e) h t,.cons r q=>by
  by_cases z:[c,e]=[a,b]
  ·cases z
   exact .inr ⟨_,_,by simp [List.lookup_cons],by simp [oS,List.find?_cons],r⟩
  ·have z':(code a b==code c e)=false:=beq_eq_false_iff_ne.2 fun y=>z (by obtain ⟨rfl,rfl⟩:=wm _ _ _ _ y;rfl)
   rcases t.look q with ⟨e1,e2⟩|⟨d,v,e1,e2,e3⟩
   ·exact .inl ⟨by simp only [List.zip_cons_cons,List.lookup_cons,z'];exact e1,by unfold oS at e2 ⊢;simp only [List.find?_cons,z,decide_false];exact e2⟩
   ·exact .inr ⟨d,v,by simp only [List.zip_cons_cons,List.lookup_cons,z'];exact e1,by unfold oS at e2 ⊢;simp only [List.find?_cons,z,decide_false];exact e2,e3⟩
theorem lW {n:Nat} (e:ue d=some n) (r:Rep K G v d):∃ q a b,v=.ref q/\n=code a b/\SqT K G q [.bl a,.bl b]:=by
 unfold ue at e
 split at e
 ·rename_i a b
  cases e
  obtain ⟨q,vs,rfl,hq,rs⟩:=r.tup_inv
  cases rs with
  | cons r1 t=>
   cases t with
   | cons r2 t=>
    cases t
    obtain rfl:=r1.bl_inv
    obtain rfl:=r2.bl_inv
    exact ⟨q,a,b,rfl,rfl,hq⟩
 ·cases e
theorem StE.dct {σ:St} {ρ:Ev} {i:Nat} {kv:List (Nat×D)} (st:StE K G H σ ρ) (e:tz ρ i=.ok kv) :
  ∃ a o xs ks ds,σ[i]?=some (some (.ref a))/\H a=some (DctO a o xs)/\KeysAt K G xs ks/\Reps K G (xs.map (·.2.2)) ds/\kv=ks.zip ds:=by
 unfold tz at e
 split at e
 ·rename_i ks ds q
  cases e
  obtain ⟨v,h1,r⟩:=st.val i _ q
  cases r with
  | dct h k r=>exact ⟨_,_,_,ks,ds,h1,st.sub _ _ h,k,r,rfl⟩
 ·rename_i m C p fs q
  split at e
  ·rename_i z
   obtain ⟨h1,ow,ob⟩:=st.obs i m C p fs q
   rw [z] at ob
   obtain ⟨o,xs,ks,ds,g1,g2,g3,g4,g5,g6,g7⟩:=ob.dco
   rw [g7,uI] at e
   cases e
   exact ⟨p,o,xs,ks,ds,h1,g1,g5,g6,rfl⟩
  ·cases e
 ·cases e
end
section
variable {X:Cx} {e:Expr} {ge ga:Ev->R D} {x:Str} {p pos:Pos}
noncomputable def Kj (K:PySem.W.Frag) (neg:Bool):R2:=fun x y H Q=>∃ q k a o xs,x=.ref q/\y=.ref a/\H a=some (DctO a o xs)/\iw K H xs/\SqT K H q (k.map V.bl)/\Q (.bl (if neg then !(oS xs k).isSome else (oS xs k).isSome)) H
theorem Jc (hu:X.A.units+64<cLine):OpR X (compareOp .In) (Kj X.K false):=by
 intro pins s σ H x y v u Q I rx ry ⟨q,k,a,o,xs,ex,ey,h1,h2,h3,h4⟩
 subst ex ey
 cases rx
 cases ry
 exact IY (by omega) I h1 h2 h3 fun s' I'=>⟨.bl _,H,I',rfl,h4⟩
theorem Ge (hu:X.A.units+64<cLine):OpR X (compareOp .NotIn) (Kj X.K true):=by
 intro pins s σ H x y v u Q I rx ry ⟨q,k,a,o,xs,ex,ey,h1,h2,h3,h4⟩
 subst ex ey
 cases rx
 cases ry
 exact AJ (by omega) I h1 h2 h3 fun s' I'=>⟨.bl _,H,I',rfl,h4⟩
noncomputable def rA (neg:Bool) (i:Nat) (ge:Ev->R D):Ev->R Bool:=fun ρ=>ge ρ>>=fun d=>ofO (ue d)>>=fun n=>tz ρ i>>=fun kv=>.ok (if neg then !(kv.lookup n).isSome else (kv.lookup n).isSome)
theorem wZ {Q:Bool->Hp->Prop} (h:tTF X (rA neg i ge) σ H Q):Ez (tOp (Kj X.K neg) (tF X ge) (JL i)) σ H Q:=by
 obtain ⟨G,ρ,st,h⟩:=h
 refine tG.intro st h fun d v G1 H1 u1 st1 r1 h1=>?_
 obtain ⟨n,e1,h1⟩:∃ n,ue d=some n/\(tz ρ i>>=fun kv=>R.ok (if neg then !(kv.lookup n).isSome else (kv.lookup n).isSome)).post (Fin G1 H1 (fun _ b c=>b=c) Q) (Exx X σ G1 H1):=by
  cases q:ue d with
  | none=>rw [q] at h1;exact h1.elim
  | some n=>rw [q] at h1;exact ⟨n,rfl,h1⟩
 cases q0:tz ρ i with
 | ok kv=>
  rw [q0] at h1
  obtain ⟨q,a,b,rfl,rfl,hq⟩:=lW e1 r1
  obtain ⟨c,o,xs,ks,ds,g1,g2,g3,g4,rfl⟩:=st1.dct q0
  refine ⟨.ref c,g1,q,[a,b],c,o,xs,rfl,rfl,g2,g3.inH st1.sub,hq.mono st1.sub,_,rfl,?_⟩
  have e2:(oS xs [a,b]).isSome=((ks.zip ds).lookup (code a b)).isSome:=by
   rcases g3.look g4 with ⟨y1,y2⟩|⟨d,v,y1,y2,_⟩ <;> rw [y1,y2] <;> rfl
  rw [e2]
  exact h1 _ G1 H1 (.refl st1.sub) rfl
 | ex C=>exact (zB q0).elim
 | no=>rw [q0] at h1;exact h1.elim
noncomputable def KA (K:PySem.W.Frag):R2:=fun x y H Q=>∃ a o xs q k v,x=.ref a/\y=.ref q/\H a=some (DctO a o xs)/\iw K H xs/\SqT K H q (k.map V.bl)/\oS xs k=some v/\Q v H
theorem GY (hu:X.A.units+64<cLine):IxR X (KA X.K):=by
 intro value slice pins s σ H x y v u Q I rx ry ⟨a,o,xs,q,k,w,ex,ey,h1,h2,h3,h4,h5⟩ hs
 subst ex ey
 cases rx
 cases ry
 obtain ⟨g1,_,_,g2,_⟩:=nB I h1
 exact tail_any (T:="dict") ⟨o,g1,g2.1⟩ PySem.F.slot_dict_getitem.lookup (Fj (by omega) I h1 h2 h3 h4 fun w' s' I' r=>⟨w,H,I',r,h5⟩) hs
noncomputable def ij (i:Nat) (ge:Ev->R D):Ev->R D:=fun ρ=>tz ρ i>>=fun kv=>ge ρ>>=fun d=>ofO ((ue d).bind fun n=>kv.lookup n)
end
section
variable {K:PySem.W.Frag} {G:Hp} {a b:Bool} {q:Addr} {v:V} {d:D}
theorem KeysAt.same:∀ {xs:DX} {ks:List Nat},KeysAt K G xs ks->[a,b] ∉ xs.map (·.1)->xs.map (fun x=>if x.1=[a,b] then (x.1,x.2.1,v) else x)=xs
 | _,_,.nil,_=>rfl
 | _,_,.cons (a:=c) (b:=e) h t,n=>by
  rw [List.map_cons,List.mem_cons,not_or] at n
  rw [List.map_cons,if_neg (fun z=>n.1 z.symm),t.same n.2]
theorem zq {n:Nat} {fd:Fd}:∀ {fs:List (Nat×Fd)},fs.lookup n=none->ug n fd fs=fs++[(n,fd)]
 | [],_=>rfl
 | (k,f)::fs,h=>by
  have ne:(n==k)=false:=by
   cases z:n==k with
   | false=>rfl
   | true=>simp only [List.lookup_cons,z] at h;cases h
  simp only [List.lookup_cons,ne] at h
  unfold ug
  rw [if_neg (fun z=>by rw [z] at ne;simp at ne),zq h];rfl
theorem KeysAt.snoc:∀ {xs:DX} {ks:List Nat},KeysAt K G xs ks->SqT K G q [.bl a,.bl b]->KeysAt K G (xs++[([a,b],q,v)]) (ks++[code a b])
 | _,_,.nil,h=>.cons h .nil
 | _,_,.cons h t,z=>.cons h (t.snoc z)
theorem mH {n:Nat}:∀ {ks:List Nat} {ds:List D},(ks.zip ds).lookup n=none->(ks.zip (ds.map Fd.val)).lookup n=none
 | [],_,_=>rfl
 | _::_,[],_=>rfl
 | k::ks,d::ds,h=>by
  rw [List.zip_cons_cons,List.lookup_cons] at h
  rw [List.map_cons,List.zip_cons_cons,List.lookup_cons]
  cases z:n==k with
  | true=>rw [z] at h;cases h
  | false=>rw [z] at h;exact mH h
theorem KeysAt.over:∀ {xs:DX} {ks:List Nat} {ds:List D},KeysAt K G xs ks->Reps K G (xs.map (·.2.2)) ds->(xs.map (·.1)).Nodup->(oS xs [a,b]).isSome=true->Rep K G v d->
  KeysAt K G (xs.map fun x=>if x.1=[a,b] then (x.1,x.2.1,v) else x) ks/\∃ ds',Reps K G ((xs.map fun x=>if x.1=[a,b] then (x.1,x.2.1,v) else x).map (·.2.2)) ds'/\ug (code a b) (.val d) (ks.zip (ds.map Fd.val))=ks.zip (ds'.map Fd.val)
 | _,_,_,.nil,.nil,_,h,_=>by cases h
 | _,_,_,.cons (a:=c) (b:=e) (ks:=ks) (xs:=ys) h t,.cons (ds:=ds) r1 r2,n,hv,r=>by
  rw [List.map_cons,List.nodup_cons] at n
  by_cases z:[c,e]=[a,b]
  ·cases z
   rw [List.map_cons,if_pos rfl,t.same n.1]
   exact ⟨.cons h t,d::ds,.cons r r2,by simp [ug]⟩
  ·have z':code c e≠code a b:=fun y=>z (by obtain ⟨rfl,rfl⟩:=wm _ _ _ _ y;rfl)
   have hv':(oS ys [a,b]).isSome=true:=by unfold oS at hv ⊢;simpa only [List.find?_cons,z,decide_false] using hv
   obtain ⟨k1,ds',k2,k3⟩:=t.over r2 n.2 hv' r
   rw [List.map_cons,if_neg z]
   refine ⟨.cons h k1,_::ds',.cons r1 k2,?_⟩
   simp only [List.map_cons,List.zip_cons_cons,ug,if_neg z',k3]
theorem KeysAt.put {xs:DX} (k:KeysAt K G xs ks) (rs:Reps K G (xs.map (·.2.2)) ds) (n:(xs.map (·.1)).Nodup) (hq:SqT K G q [.bl a,.bl b]) (r:Rep K G v d) :
  ∃ ks' ds',KeysAt K G (C7 xs [a,b] q v) ks'/\Reps K G ((C7 xs [a,b] q v).map (·.2.2)) ds'/\ug (code a b) (.val d) (ks.zip (ds.map Fd.val))=ks'.zip (ds'.map Fd.val):=by
 unfold C7
 by_cases z:(oS xs [a,b]).isSome=true
 ·rw [if_pos z]
  obtain ⟨k1,ds',k2,k3⟩:=k.over rs n z r
  exact ⟨ks,ds',k1,k2,k3⟩
 ·rw [if_neg z]
  refine ⟨ks++[code a b],ds++[d],k.snoc hq,?_,?_⟩
  ·rw [List.map_append];exact rs.append (.cons r .nil)
  ·rcases k.look (a:=a) (b:=b) rs with ⟨y1,_⟩|⟨_,_,_,y2,_⟩
   ·have ln:ks.length=(ds.map Fd.val).length:=by rw [List.length_map,<- rs.length,List.length_map,k.length]
    rw [zq (mH y1),List.map_append,List.zip_append ln];rfl
   ·rw [y2] at z;exact absurd rfl z
end
theorem DRel.keys:∀ {xs:DX} {us:DU},DRel xs us->xs.map (·.1)=us.map (·.1)
 | _,_,.nil=>rfl
 | _,_,.cons h t=>by rw [List.map_cons,List.map_cons,h.1,DRel.keys t]
noncomputable def Ka (K:PySem.W.Frag):JS:=fun x y v H Q=>∃ a o xs q k,x=.ref a/\y=.ref q/\H a=some (DctO a o xs)/\iw K H xs/\SqT K H q (k.map V.bl)/\xs.length<sizeLine/\((xs.map (·.1)).Nodup->∀ o',Q (upd H a (DctO a o' (C7 xs k q v))))
section
variable {X:Cx} {e ix:Expr} {ge ga gk:Ev->R D} {x:Str} {p tp pos:Pos}
theorem EW (hu:X.A.units+64<cLine):KT X (Ka X.K):=by
 intro pins s σ H o i v ov iv u Q I ro ri rv ⟨a,ob,xs,q,k,eo,ei,h1,h2,h3,h4,h5⟩
 subst eo ei
 cases ro
 cases ri
 obtain ⟨_,_,_,_,us,r,_,_,_,_,n⟩:=nB I h1
 rw [<- DRel.keys r] at n
 exact Fa (by omega) I h1 h2 h3 h4 rv fun o' s' I'=>⟨_,I',h5 n o'⟩
noncomputable def Cj (i:Nat) (gk ga:Ev->R D):Ev->O:=fun ρ=>(yb DC ρ i).out ρ fun o=>(dH (ga ρ)).out ρ fun d=>(dH (gk ρ)).out ρ fun k=>match ue k with
 | some n=>if o.2.length<900 then .nx (ρ.set i (some (.obj true DC o.1 (ug n (.val d) o.2)))) else .no
 | none=>.no
end
section
variable {X:Cx} {cJ:List Stmt} {α:Type} {g2:α->Ev->O} {x y:Str} {e:Expr} {ga:Ev->R D} {p py pos pos':Pos}
theorem Bo {K:PySem.W.Frag} {p:Addr} {xs:DX} (s:Same G H) (hp:H p=none) (k:KeysAt K G xs ks) (r:Reps K G (xs.map (·.2.2)) ds) :
  Up G H G (upd H p (DctO p o xs))/\ObjAt K H G (upd H p (DctO p o xs)) (fun a=>if a=p then some (0,0) else none) 0 true DC p (ks.zip (ds.map Fd.val)):=
 ⟨⟨fun a u q=>by rw [aU (aN q (s.free hp))];exact s a u q,.refl _,.into hp,fun _ _ q=>.inl q⟩,.inr ⟨rfl,o,xs,ks,ds,bc,s.free hp,fun _=>hp,if_pos rfl,k,r,rfl⟩⟩
noncomputable def Em (i:Nat) (g2:α->Ev->O):Addr×α->Ev->O:=fun q ρ=>g2 q.2 (ρ.set i (some (.obj true DC q.1 [])))
noncomputable def zY (i:Nat) (ga:Ev->R D) (g2:α->Ev->O):Addr×α->Ev->O:=fun q ρ=>(dH (ga ρ)).out ρ fun d=>match d with
 | .dct (k::ks) ds=>g2 q.2 (ρ.set i (some (.obj true DC q.1 ((k::ks).zip (ds.map Fd.val)))))
 | _=>.no
noncomputable def tB (i:Nat):Ev->O:=fun ρ=>match ρ[i]? with
 | some (some (.obj true C _ fs))=>if C=DC then (match fvs fs with
  | some kv=>.rt (.dct (kv.map (·.1)) (kv.map (·.2)))
  | none=>.no) else .no
 | _=>.no
noncomputable def d1F:D->D->Option D:=fun k v=>(ue k).map fun n=>.dct [n] [v]
noncomputable def gD1 (gk gv:Ev->R D):Ev->R D:=fun ρ=>gk ρ>>=fun k=>gv ρ>>=fun v=>ofO (d1F k v)
def Dy (n:Nat):D:=.tup [.bl (n % 2==1),.bl (n / 2==1)]
noncomputable def zv:D->R (List D)
 | .dct ks ds=>.ok ((ks.zip ds).map fun z=>.tup [Dy z.1,z.2])
 | _=>.no
theorem tU:∀ a b:Bool,Dy (code a b)=.tup [.bl a,.bl b]:=by
 intro a b;cases a <;> cases b <;> rfl
theorem KeysAt.item {K:PySem.W.Frag}:∀ {xs:DX} {ks:List Nat} {ds:List D} {i:Nat} {y:List Bool×Addr×V},KeysAt K G xs ks->Reps K G (xs.map (·.2.2)) ds->xs[i]?=some y->∃ n d,(ks.zip ds)[i]?=some (n,d)/\Rep K G (.ref y.2.1) (Dy n)/\Rep K G y.2.2 d
 | _,_,_,_,_,.nil,_,e=>by simp at e
 | _,_,_,0,_,.cons (a:=a) (b:=b) h t,.cons r1 r2,e=>by
  simp at e
  subst e
  exact ⟨_,_,rfl,by rw [tU];exact .tup h (.cons (.bl a) (.cons (.bl b) .nil)),r1⟩
 | _,_,_,i+1,_,.cons h t,.cons r1 r2,e=>by
  obtain ⟨n,d,h1,h2⟩:=KeysAt.item (i:=i) t r2 (by simpa using e)
  exact ⟨n,d,by simpa using h1,h2⟩
theorem ItOk.dct {K:PySem.W.Frag} {xs:DX} (h:G a=some (DctO a o xs)) (k:KeysAt K G xs ks) (r:Reps K G (xs.map (·.2.2)) ds):ItOk K G (Itd a o xs) ((ks.zip ds).map fun z=>.tup [Dy z.1,z.2]):=by
 intro i G1 H1 s1 s2
 have l1:=k.length
 have l2:=r.length
 rw [List.length_map] at l2
 have lz:((ks.zip ds).map fun z=>D.tup [Dy z.1,z.2]).length=xs.length:=by rw [List.length_map,List.length_zip];omega
 have hH:=s2 _ _ (s1 _ _ h)
 refine ⟨fun d e=>?_,fun hl=>⟨hH,by rw [lz] at hl;exact hl⟩⟩
 have hi:i<xs.length:=by rw [<- lz];exact (List.getElem?_eq_some_iff.1 e).1
 refine ⟨⟨hH,hi⟩,fun x H' ⟨p,y,ex,hp,hy,eH⟩=>?_⟩
 subst ex eH
 obtain ⟨n,d',e1,e2,e3⟩:=k.item r hy
 rw [List.getElem?_map,e1] at e
 cases e
 have gp:=s2.free hp
 exact ⟨upd G1 p (.tup [.ref y.2.1,y.2.2]),.new s2 hp,.tup (.of bc) (.cons ((e2.mono s1).mono (.into gp)) (.cons ((e3.mono s1).mono (.into gp)) .nil))⟩
end
noncomputable def tD (key:D->R D):D->Int->List D->R D
 | b,_,[]=>.ok b
 | b,kb,x::xs=>match key x with
  | .ok (.int kx)=>if kx<kb then tD key x kx xs else tD key b kb xs
  | _=>.no
noncomputable def qB (key:D->R D):List D->R D
 | x::xs=>(match key x with
  | .ok (.int kx)=>tD key x kx xs
  | _=>.no)
 | []=>.no
section
variable {X:Cx} {pins:List (Addr×Obj)} {σ:St} {G H:Hp} {s:Shared} {k:Nat} {f:Addr} {fd:FuncData} {ps:List Str} {g:List D->R D} {v:V} {u:Value} {d:D} {n:Int} {E:Value->Shared->Prop}
theorem xA (F:FnF X.prog X.w X.K X.mg X.base k f fd ps g) (hr:Room k X.A.in1) (hh:X.A.handled=none) (hb:Binds X.K fd ps []) (hl:ps.length=1) (I:Inv X pins σ H s) (ru:RelV v u) (sub:Same G H) (rd:Rep X.K G v d) (e:g [d]=.ok (.int n)) :
  wpAny (model X.prog X.w) X.A.in1 (call (.ref f) [u]) (fun y s4=>∃ H4 t,y=.int n t/\Inv X pins σ H4 s4/\Same H H4/\Un (frs X.stack) [] H H4 s.heap s4.heap) E s:=by
 have J:Inv { X with A:=X.A.in1 } pins σ H s:=I.cx (A':=X.A.in1) (calm':=X.calm) (pn':=X.pn) (pins':=pins) (xe':=X.xe) (fun p q=>q) rfl (fun _=>hh)
 have hbb:=hb s [u] J.kIn (by rw [hl];rfl)
 refine wpAny_call (codeAny_mono (F.run X.A.in1 X.stack s H ⟨[u],[]⟩ [u] [v] (fun w H4=>w=.int n/\Same H H4) (fun _ _ _=>False) hr J.env0 hbb (.cons ru .nil) ⟨by rw [hl];rfl,G,[d],sub,.cons rd .nil,?_⟩) fun r s' hq=>?_)
 ·rw [e]
  exact fun w G' H' up rw'=>⟨rw'.int_inv,up.hh⟩
 ·cases r with
  | error z=>obtain ⟨_,_,_,_,_,z⟩:=hq;exact z.elim
  | ok fl=>
   cases fl with
   | ret y=>
    obtain ⟨w,H4,os4,bare4,un4,hok4,rk4,rfl,sm⟩:=hq
    obtain ⟨t,rfl⟩:=rk4
    exact ⟨H4,t,rfl,I.call' (s':=s') (ch:=[]) os4 un4 hok4 bare4 (fun b z=>absurd z (by simp)),sm,un4⟩
   | _=>exact False.elim hq
end
section
variable {X:Cx} {pins:List (Addr×Obj)} {σ:St} {G H0:Hp} {Ii S l f:Addr} {k:Nat} {fd:FuncData} {ps:List Str} {g:List D->R D} {vs:List V} {dd:D} {Rr:Result->Shared->Prop}
theorem GJ {prog:Program} {w:World} {A:Around} {i j:Int} {t u:Tok} {Q:Value->Shared->Prop} (h:Q (.bool (decide (i<j))) s):wpAny (model prog w) A (richCompare .Lt (.int i t) (.int j u)) Q E s:=
 richCompare_gives (op:=.Lt) (typeIs_int s _ t) (typeIs_int s _ u) PySem.F.slot_int_lt PySem.F.entry_int_lt (PySem.F.args_int_lt_2 _ _) (gives_int_lt _ _ t u) (fun x=>nomatch x) h
theorem Al (F:FnF X.prog X.w X.K X.mg X.base k f fd ps g) (hr:Room k X.A.in1) (hh:X.A.handled=none) (hb:Binds X.K fd ps []) (hl1:ps.length=1) (hG:Same G H0) (hq:SqL X.K G l vs) (hlI:l≠Ii) (hSI:S≠Ii)
 (fpI:∀ H',H' Ii=none->pe X pins H' Ii) (fpS:∀ H',H' S=none->pe X pins H' S) (nfI:Ii ∉ frs X.stack) (nfS:S ∉ frs X.stack)
 (hR:∀ v u H' s',Inv X pins σ H' s'->Same H0 H'->RelV v u->Rep X.K G v dd->Rr (.ok (.ret u)) s') :
  ∀ (cJ:List D) (vrest:List V) (p:Nat) (b:D) (vb:V) (kb:Int) (s:Shared) (H:Hp) (ub:Value) (t:Tok) (c:Nat),p<=vs.length->vs.drop p=vrest->Reps X.K G vrest cJ->tD (fun d=>g [d]) b kb cJ=.ok dd->
   Inv X pins σ H s->Same H0 H->s.heap.get? S=some (seqObj "list" #[ub,.int kb t] c)->s.heap.IsListIter Ii l p->H Ii=none->H S=none->RelV vb ub->Rep X.K G vb b->
   codeAny (model X.prog X.w) X.A (.builtin "min.loop" ⟨[.ref Ii,.ref f,.ref S],[]⟩) Rr s:=by
 intro cJ
 have nm:(toString "min"++toString ".loop":String)="min.loop":=by decide
 induction cJ with
 | nil=>
  intro vrest p b vb kb s H ub t c hpl hd hrs hm I hs gS hit nI nS rb rpb
  cases hm
  cases hrs
  obtain ⟨its,rvs,pl,hz⟩:=I.list ((hq.mono hG).mono hs)
  have W:=Walks.list (prog:=X.prog) (w:=X.w) (A:=X.A.in1) hh Ii l hlI its.toArray
  obtain rfl:p=its.toArray.size:=by
   have h1:=rvs.length
   have h2:=List.drop_eq_nil_iff.1 hd
   simp;omega
  refine codeAny_builtin PySem.F.entry_min_loop ?_
  rw [Around.under_plainId PySem.F.plain_min_loop _]
  refine wpAny_bind (m:=seqItems? (.ref S)) (wpAny_seqItems gS rfl (wpAny_bind (m:=tryCatch (pyNext (.ref Ii)) _) (wpAny_tryCatch (W.done _ _ _ ⟨hit,pl.isList⟩ fun h6 tk6 hk6=>?_))))
  have I6:Inv X pins σ H { s with heap:=h6,toks:=tk6 }:=Inv.turnedL (s:=s) (h':=h6) (t':=tk6) (ch:=[Ii]) I (fun b ob hb e=>hk6 b ob hb e) (fun b hb=>by rw [List.mem_singleton.1 hb];exact fpI H nI)
  have s7:=Heap.SameBut.update h6 S (Obj.mapSeq fun _=>(#[]:Array Value))
  refine wpAny_bind (m:=updateSeq S fun _=>#[]) (wpAny_updateSeq (hk6 S _ (by simpa using hSI) gS) rfl (wpAny_bind (wpAny_letGo (wpAny_pure ?_))))
  exact hR vb ub H _ (Inv.turnedL (s:={ s with heap:=h6,toks:=tk6 }) (t':=tk6) (ch:=[S]) I6 (fun b ob hb e=>(s7.2 b (by simpa using hb)).trans e) (fun b hb=>by rw [List.mem_singleton.1 hb];exact fpS H nS)) hs rb rpb
 | cons d cJ ih=>
  intro vrest p b vb kb s H ub t c hpl hd hrs hm I hs gS hit nI nS rb rpb
  cases hrs with
  | cons rd rrest=>
  rename_i v vrest
  obtain ⟨its,rvs,pl,hz⟩:=I.list ((hq.mono hG).mono hs)
  have W:=Walks.list (prog:=X.prog) (w:=X.w) (A:=X.A.in1) hh Ii l hlI its.toArray
  have hvp:vs[p]?=some v:=by simpa [List.head?_drop] using congrArg List.head? hd
  have hdr:vs.drop (p+1)=vrest:=by simpa [List.tail_drop] using congrArg List.tail hd
  have hpl':p+1<=vs.length:=(List.getElem?_eq_some_iff.1 hvp).1
  obtain ⟨u,hu,ru⟩:=rvs.get hvp
  obtain ⟨kx,eg⟩:∃ kx,g [d]=.ok (.int kx):=by
   unfold tD at hm
   split at hm
   ·rename_i kx e;exact ⟨kx,e⟩
   ·cases hm
  simp only [tD,eg] at hm
  refine codeAny_builtin PySem.F.entry_min_loop ?_
  rw [Around.under_plainId PySem.F.plain_min_loop _]
  refine wpAny_bind (m:=seqItems? (.ref S)) (wpAny_seqItems gS rfl (wpAny_bind (m:=tryCatch (pyNext (.ref Ii)) _) (wpAny_tryCatch (W.item p _ _ _ (by simpa using (List.getElem?_eq_some_iff.1 hu).1) ⟨hit,pl.isList⟩ fun v' h3 tk3 hP hst3 hk3=>?_))))
  obtain rfl:v'=u:=by
   have:its[p]?=some v':=by simpa using hP
   rw [hu] at this;cases this;rfl
  obtain ⟨oI,hoI,hoc,hod⟩:=id hst3.1
  have I3:Inv X pins σ H { s with heap:=h3,toks:=tk3 }:=Inv.turnedL (s:=s) (h':=h3) (t':=tk3) (ch:=[Ii]) I (fun b ob hb e=>hk3 b ob hb e) (fun b hb=>by rw [List.mem_singleton.1 hb];exact fpI H nI)
  have gS3:h3.get? S=some (seqObj "list" #[ub,.int kb t] c):=hk3 _ _ (by simpa using hSI) gS
  refine wpAny_bind (m:=tryCatch (holding [v'] (call (.ref f) [v'])) _) (wpAny_tryCatch (wpAny_holding (wpAny_mono (xA (E:=fun _ _=>False) F hr hh hb hl1 I3 ru (hG.trans hs) rd eg) (fun y s4 ⟨H4,tx,ey,I4,sm4,un4⟩=>?_) fun _ _ z=>z.elim)))
  subst ey
  have gS4:=un4.keep _ _ gS3 nS nfS (by simp)
  have gI4:=un4.keep _ _ hoI nI nfI (by simp)
  have nI4:H4 Ii=none:=un4.free _ _ hoI nI (by simp)
  have nS4:H4 S=none:=un4.free _ _ gS3 nS (by simp)
  refine wpAny_bind (m:=tryCatch (holding [v',.int kx tx] (richCompare .Lt (.int kx tx) (.int kb t)>>=_)) _) (wpAny_tryCatch (wpAny_holding (wpAny_bind (GJ (wpAny_bind (wpAny_holding (wpAny_truthy_bool (wpAny_bind (wpAny_letGo (wpAny_pure ?_))))))))))
  by_cases hlt:kx<kb
  ·rw [if_pos hlt] at hm
   rw [decide_eq_true hlt]
   have s1:=Heap.SameBut.update s4.heap S (Obj.mapSeq fun _=>#[v',.int kx tx])
   obtain ⟨c2,hc2⟩:∃ c2,(s4.heap.update S (Obj.mapSeq fun _=>#[v',.int kx tx])).get? S=some (seqObj "list" #[v',.int kx tx] c2):=⟨_,get?_update_seq gS4 fun _=>#[v',.int kx tx]⟩
   simp only [if_true]
   refine wpAny_bind (wpAny_updateSeq gS4 rfl (wpAny_bind (wpAny_letGo ?_)))
   rw [nm]
   exact wpAny_pure ⟨plainId_quiet PySem.F.plain_min_loop _,ih vrest (p+1) d v kx _ H4 v' tx c2 hpl' hdr rrest hm (Inv.turnedL (s:=s4) (t':=s4.toks) (ch:=[S]) I4 (fun b ob hb e=>(s1.2 b (by simpa using hb)).trans e) (fun b hb=>by rw [List.mem_singleton.1 hb];exact fpS H4 nS4)) (hs.trans sm4) hc2 ⟨oI,(s1.2 Ii hSI.symm).trans gI4,hoc,hod⟩ nI4 nS4 ru rd⟩
  ·rw [if_neg hlt] at hm
   rw [decide_eq_false hlt]
   simp only [Bool.false_eq_true,if_false]
   refine wpAny_bind (wpAny_letGo ?_)
   rw [nm]
   exact wpAny_pure ⟨plainId_quiet PySem.F.plain_min_loop _,ih vrest (p+1) b vb kb s4 H4 ub t c hpl' hdr rrest hm I4 (hs.trans sm4) gS4 ⟨oI,gI4,hoc,hod⟩ nI4 nS4 rb rpb⟩
theorem Bp {v0:V} {vr:List V} {d0:D} {kb:Int} {Q:VK} (F:FnF X.prog X.w X.K X.mg X.base k f fd ps g) (hr:Room k X.A.in1) (hh:X.A.handled=none) (hb:Binds X.K fd ps []) (hl1:ps.length=1) (I:Inv X pins σ H s) (hG:Same G H) (hq:SqL X.K G l (v0::vr)) (r0:Rep X.K G v0 d0) (rr:Reps X.K G vr ds)
 (eg:g [d0]=.ok (.int kb)) (em:tD (fun d=>g [d]) d0 kb ds=.ok dd) (hQ:∀ v H',Same H H'->Rep X.K G v dd->Q v H') :
  wpAny (model X.prog X.w) X.A (call (.builtin "min") [.ref l] [(Str.ofString "key",.ref f)]) (EP X pins σ Q) X.xe s:=by
 have nm:(toString "min"++toString ".loop":String)="min.loop":=by decide
 obtain ⟨its,rvs,pl,hz⟩:=I.list (hq.mono hG)
 have hl:=pl.isList
 obtain ⟨ol,hol,_⟩:=id hl
 have ll:l<s.heap.objs.size:=Heap.lt_size hol
 refine kmk_tree PySem.F.kind_min PySem.F.plain_min PySem.F.entry_min (kmk_min_key _ _) ?_
 refine wpAny_bind (m:=Builtin.Builtins.bindParams "min" ["key","default"] 0 ⟨[],[(Str.ofString "key",.ref f)]⟩) (wpAny_of_eq (a:=[some (.ref f),none]) rfl (wpAny_bind (wpAny_pure (wpAny_bind (wpAny_pyIter_list hl (wpAny_bind (wpAny_newList ?_ (Nat.zero_le _))))))))
 rw [nm]
 generalize hI:s.heap.objs.size=Ii at *
 have hS:(s.heap.push { cls:=.type "list_iterator",data:=.fields #[.ref l,.int 0 0] }).objs.size=Ii+1:=by rw [<- hI];exact size_push' ..
 rw [hS]
 have hlI:l≠Ii:=Nat.ne_of_lt ll
 have hSI:Ii+1≠Ii:=Nat.ne_of_gt (Nat.lt_succ_self _)
 refine wpAny_pure ⟨plainId_quiet PySem.F.plain_min_loop _,?_⟩
 generalize hh2:(s.heap.push { cls:=.type "list_iterator",data:=.fields #[.ref l,.int 0 0] }).push (seqObj "list" #[] 0)=h2
 have k2:∀ b ob,s.heap.get? b=some ob->h2.get? b=some ob:=fun b ob e=>by rw [<- hh2];exact Heap.get?_push_of_some _ (Heap.get?_push_of_some _ e)
 have gI:h2.get? Ii=some { cls:=.type "list_iterator",data:=.fields #[.ref l,.int 0 0] }:=by
  rw [<- hh2,<- hI];exact Heap.get?_push_of_some _ (Heap.get?_push_size _ rfl)
 have gS:h2.get? (Ii+1)=some (seqObj "list" #[] 0):=by
  rw [<- hh2,<- hS];exact Heap.get?_push_size _ rfl
 have fpI:∀ H',H' Ii=none->pe X pins H' Ii:=fun H' n=>I.fpOk (by rw [hI];exact Nat.le_refl _) n
 have fpS:∀ H',H' (Ii+1)=none->pe X pins H' (Ii+1):=fun H' n=>I.fpOk (by rw [hI];exact Nat.le_succ _) n
 have nI:H Ii=none:=I.hok.fresh (by rw [hI];exact Nat.le_refl _)
 have nS:H (Ii+1)=none:=I.hok.fresh (by rw [hI];exact Nat.le_succ _)
 have noF:∀ b,s.heap.objs.size<=b->b ∉ frs X.stack:=fun b hb z=>by
  rcases List.mem_cons.1 (I.stkSub b z) with rfl|z
  ·exact absurd I.lt (Nat.not_lt.2 hb)
  ·exact I.nofs hb z
 have nfI:Ii ∉ frs X.stack:=noF _ (by rw [hI];exact Nat.le_refl _)
 have nfS:(Ii+1) ∉ frs X.stack:=noF _ (by rw [hI];exact Nat.le_succ _)
 have W:=Walks.list (prog:=X.prog) (w:=X.w) (A:=X.A.in1) hh Ii l hlI its.toArray
 obtain ⟨u0,hu0,ru⟩:=rvs.get (i:=0) (x:=v0) rfl
 refine codeAny_builtin PySem.F.entry_min_loop ?_
 rw [Around.under_plainId PySem.F.plain_min_loop _]
 refine wpAny_bind (m:=seqItems? (.ref _)) (wpAny_seqItems gS rfl (wpAny_bind (m:=tryCatch (pyNext (.ref Ii)) _) (wpAny_tryCatch (W.item 0 _ _ _ (by simpa using (List.getElem?_eq_some_iff.1 hu0).1) ⟨⟨_,gI,rfl,rfl⟩,hl.at fun o e=>k2 _ _ e⟩ fun v h3 tk3 hP hst3 hk3=>?_))))
 obtain rfl:v=u0:=by
  have:its[0]?=some v:=by simpa using hP
  rw [hu0] at this;cases this;rfl
 obtain ⟨oI,hoI,hoc,hod⟩:=id hst3.1
 have I3:Inv X pins σ H { s with heap:=h3,toks:=tk3 }:=Inv.turnedL (s:={ s with heap:=h2,toks:=s.toks }) (h':=h3) (t':=tk3) (ch:=[Ii]) (I.kept k2) (fun b ob hb e=>hk3 b ob hb e) (fun b hb=>by rw [List.mem_singleton.1 hb];exact fpI H nI)
 have gS3:h3.get? (Ii+1)=some (seqObj "list" #[] 0):=hk3 _ _ (by simp) gS
 refine wpAny_bind (m:=tryCatch (holding [v] (call (.ref f) [v])) _) (wpAny_tryCatch (wpAny_holding (wpAny_mono (xA (E:=fun _ _=>False) F hr hh hb hl1 I3 ru hG r0 eg) (fun y s4 ⟨H4,tx,ey,I4,sm4,un4⟩=>?_) fun _ _ z=>z.elim)))
 subst ey
 have gS4:=un4.keep _ _ gS3 nS nfS (by simp)
 have gI4:=un4.keep _ _ hoI nI nfI (by simp)
 have nI4:H4 Ii=none:=un4.free _ _ hoI nI (by simp)
 have nS4:H4 (Ii+1)=none:=un4.free _ _ gS3 nS (by simp)
 have s5:=Heap.SameBut.update s4.heap (Ii+1) (Obj.mapSeq fun _=>#[v,.int kb tx])
 obtain ⟨c5,hc5⟩:∃ c5,(s4.heap.update (Ii+1) (Obj.mapSeq fun _=>#[v,.int kb tx])).get? (Ii+1)=some (seqObj "list" #[v,.int kb tx] c5):=⟨_,get?_update_seq gS4 fun _=>#[v,.int kb tx]⟩
 refine wpAny_bind (m:=updateSeq (Ii+1) fun _=>#[v,.int kb tx]) (wpAny_updateSeq gS4 rfl ?_)
 rw [nm]
 refine wpAny_pure ⟨plainId_quiet PySem.F.plain_min_loop _,?_⟩
 exact Al (H0:=H) (G:=G) (vs:=v0::vr) F hr hh hb hl1 hG hq hlI hSI fpI fpS nfI nfS (fun v u H' s' I' sm' rv' rp'=>⟨v,H',I',rv',hQ v H' sm' rp'⟩) ds vr 1 d0 v0 kb _ H4 v tx c5 (by simp) rfl rr em (Inv.turnedL (s:=s4) (t':=s4.toks) (ch:=[Ii+1]) I4 (fun b ob hb e=>(s5.2 b (by simpa using hb)).trans e) (fun b hb=>by rw [List.mem_singleton.1 hb];exact fpS H4 nS4)) sm4 hc5 ⟨oI,(s5.2 Ii (Ne.symm hSI)).trans gI4,hoc,hod⟩ nI4 nS4 ru r0
end
theorem vY {key:D->R D}:∀ {xs:List D} {b:D} {kb:Int},(∃ d,tD key b kb xs=.ok d)\/tD key b kb xs=.no
 | [],b,kb=>.inl ⟨_,rfl⟩
 | x::xs,b,kb=>by
  unfold tD
  split
  ·split
   ·exact vY
   ·exact vY
  ·exact .inr rfl
theorem Bf {key:D->R D} {x:D} {xs:List D}:(∃ kb d,key x=.ok (.int kb)/\tD key x kb xs=.ok d/\qB key (x::xs)=.ok d)\/qB key (x::xs)=.no:=by
 show _\/(match key x with
  | .ok (.int kx)=>tD key x kx xs
  | _=>.no)=.no
 have e0:qB key (x::xs)=(match key x with
  | .ok (.int kx)=>tD key x kx xs
  | _=>.no):=rfl
 rw [e0]
 cases e:key x with
 | ok d=>
  cases d with
  | int kb=>
   rcases vY (key:=key) (xs:=xs) (b:=x) (kb:=kb) with ⟨d,h⟩|h
   ·exact .inl ⟨kb,d,rfl,h,h⟩
   ·exact .inr h
  | _=>exact .inr rfl
 | _=>exact .inr rfl
noncomputable def vt (ga:Ev->R D) (g:List D->R D):Ev->R D:=fun ρ=>ga ρ>>=fun d=>match d with
 | .lst _ xs=>qB (fun d=>g [d]) xs
 | _=>.no
noncomputable def lQ (K:PySem.W.Frag) (c:Addr) (d:D):Prop:=∀ G,Rep K G (.ref c) d
theorem BQ {K:PySem.W.Frag} {c:Addr} {its:Array Value} {n:Nat} (h1:K.lookup c=some o) (h2:o.cls=.type "tuple") (h3:o.data=.seq its n) (h4:its.size<=sizeLine) (h5:Vals vs its.toList) (h6:∀ G,Reps K G vs ds):lQ K c (.tup ds):=fun G=>.tup (.inr ⟨o,its,n,h1,h2,h3,h4,h5⟩) (h6 G)
theorem FC (l:Addr) (items:Array Value) (n:Nat) (b:Addr) (items2:Array Value) (hs1:items.size+items2.size<=sizeLine) :
  Meets (Builtin.«list.extend» { pos:=[.ref l,.ref b] }) fun _ R s=>s.heap.get? l=some { cls:=.type "list",data:=.seq items n }/\IsTup s.heap b items2/\R (.ok (.ret .none)) { s with heap:=s.heap.update l (Obj.mapSeq fun x=>x++items2) }:=by
 intro prog w A R s ⟨hl,⟨o,e2,hc,n2,hd⟩,h⟩
 show wpAny _ _ (selfAndOne "list.extend" { pos:=[.ref l,.ref b] }>>=_) _ _ s
 refine wpAny_bind (wpAny_of_eq (a:=(.ref l,.ref b)) rfl ?_)
 show wpAny _ _ (Builtin.List.listExtendWith (.ref l) (.ref b) .none) _ _ s
 unfold Builtin.List.listExtendWith
 refine wpAny_bind (wpAny_typeOf (T:="tuple") ⟨o,e2,hc⟩ ?_)
 rw [if_pos (by rw [Bool.or_eq_true];exact .inr (by decide))]
 unfold Builtin.List.listItems
 refine wpAny_bind (wpAny_bind (wpAny_seqItems e2 hd (wpAny_pure ?_)))
 refine wpAny_bind (wpAny_bind (wpAny_seqItems hl rfl (wpAny_pure ?_)))
 dsimp only
 rw [qy hs1,Bool.and_false,if_neg (by decide)]
 show wpAny _ _ (updateSeq l (fun x=>x++items2)>>=_) _ _ s
 refine wpAny_bind (wpAny_updateSeq (hz:=Nat.le_trans (Nat.le_add_right _ _) hs1) (_hz':=?_) hl rfl ?_)
 ·exact wpAny_pure (a:=Fin.done (.ret .none)) h
 ·rw [Array.size_append];omega
noncomputable def LU (K:PySem.W.Frag):V->List V->Hp->VK->Prop:=fun x vs H Q=>∃ l b xs zs,x=.ref l/\vs=[.ref b]/\H l=some (.lst xs)/\SqT K H b zs/\xs.length+zs.length<=sizeLine/\Q .non (upd H l (.lst (xs++zs)))
theorem FJ:MtM X "list.extend" (LU X.K):=by
 intro pins s σ H x vs v us Q I rx rv h
 obtain ⟨l,b,xs,zs,rfl,rfl,hH,hB,hz,q⟩:=h
 cases rx
 obtain ⟨u,rfl,ru⟩:=rv.one
 cases ru
 obtain ⟨z,its,n,r,hl,e⟩:=I.lstM hH
 obtain ⟨its2,r2,it2,z2⟩:=I.tuple hB
 have hl2:=r2.length
 have hsz:its.toArray.size+its2.toArray.size<=sizeLine:=by rw [List.size_toArray,List.size_toArray];omega
 refine call_meets F.slot_list_extend ⟨_,e,rfl⟩ F.entry_list_extend (F.args_list_extend_2 _ _) (FC l its.toArray n b its2.toArray hsz) ⟨e,it2,?_⟩
 refine ⟨.non,_,I.lset (its':=its++its2) hH e (by simp) (r.append r2) ?_,rfl,q⟩
 rw [List.length_append]
 omega
def asT:D->R (List D)
 | .tup xs=>.ok xs
 | _=>.no
noncomputable def FY (i:Nat) (ga:Ev->R D):Ev->O:=fun ρ=>(ownAt ρ i).out ρ fun ds=>(ga ρ).out ρ fun d=>(asT d).out ρ fun es=>if ds.length+es.length<=sizeLine then .nx (ρ.set i (some (.own (ds++es)))) else .no
noncomputable def AK (i j m:Nat) (ga:Ev->R D) (gl gl':Ev->R (List D)):Ev->O:=fun ρ=>(dH (ga ρ)).out ρ fun d=>(dH (gl ρ)).out ρ fun ds=>(dH (gl' ρ)).out ρ fun es=>.nx (((ρ.set i (some (.val d))).set j (some (.own ds))).set m (some (.own es)))
@[irreducible] noncomputable def EN {α:Type} (X:Cx) (e:List Stmt) (g:α->Ev->O):Prop:=NL X e g
@[irreducible] noncomputable def PFX (X:Cx) (e:Expr) (g:Ev->O):Prop:=QFX X e g
@[irreducible] noncomputable def PF (X:Cx) (e:Expr) (g:Ev->R D):Prop:=QF X e g
@[irreducible] noncomputable def PFA (X:Cx) (e:List Expr) (g:Ev->R (List D)):Prop:=QFA X e g
@[irreducible] noncomputable def PB (X:Cx) (e:Expr) (g:Ev->R Bool):Prop:=QB X e g
@[irreducible] noncomputable def PBW (X:Cx) (e:Expr) (g:Ev->R Bool):Prop:=QBW X e g
@[irreducible] noncomputable def PSF (X:Cx) (e:Stmt) (g:Ev->O):Prop:=QSF X e g
@[irreducible] noncomputable def wK (X:Cx) (e:List Stmt) (g:Ev->O):Prop:=B0 X e g
@[irreducible] noncomputable def PFL (X:Cx) (e:Expr) (g:Ev->R (List D)):Prop:=QFL X e g
@[irreducible] noncomputable def PIF (X:Cx) (tg e:Expr) (g:Ev->R (List D)):Prop:=QIF X tg e g
@[irreducible] noncomputable def PFO (X:Cx) (e:Option Expr) (g:Ev->R (Option Int)):Prop:=QFO X e g
local macro_rules | `(tactic| walk_at "u")=>`(tactic| ((try unfold PSsI at *);(try unfold EN at *);(try unfold PFX at *);(try unfold PBX at *);(try unfold PBXW at *);(try unfold PF at *);(try unfold PFA at *);(try unfold PB at *);(try unfold PBW at *);(try unfold PSF at *);(try unfold wK at *);(try unfold PFL at *);(try unfold PIF at *);(try unfold PFO at *)))
section
variable {X:Cx} {e a b c:Expr} {ga gb gc:Ev->R D} {pos:Pos}
theorem ah {i:Int}:PF X (.Constant (.int i) j pos) (fun _=>.ok (.int i)):=by
 with_unfolding_all exact fK JC fun _ _=>.int i
theorem lG {k:Bool}:PF X (.Constant (.bool k) j pos) (fun _=>.ok (.bl k)):=by
 with_unfolding_all exact fK Lj fun _ _=>.bl k
theorem xt:PF X (.Constant .none j pos) (fun _=>.ok .non):=by
 with_unfolding_all exact fK Jo fun _ _=>.non
theorem bJ {l:List Nat} (hl:x.cps.toList=l:=by rfl) (hz:l.length<=1000:=by decide):PF X (.Constant (.str x) j pos) (fun _=>.ok (.str l)):=by
 with_unfolding_all exact fK GU fun _ _=>.strL hl (Nat.le_trans hz (by decide))
theorem fm {i:Int} {t:Tok} (hg:Gl X x) (hm:X.mg x=some (.int i t)) (hd:(x==("__debug__":Str))=false:=by decide):PF X (.Name x pos) (fun _=>.ok (.int i)):=by
 with_unfolding_all exact fK (vR (v:=.int i) hg hm ⟨t,rfl⟩ hd) fun _ _=>.int i
end
section
variable {X:Cx}
theorem bb {a b:Expr} {ga:Ev->R D} (ha:PF X a ga) (hb:PF X b gb):PF X (.BinOp a .Add b pos) (g2 bR ga gb):=by
 with_unfolding_all exact jB Gn (IH _) ha hb
theorem nq {a b:Expr} {ga:Ev->R D} (ha:PF X a ga) (hb:PF X b gb):PF X (.BinOp a .Sub b pos) (g2 vM ga gb):=by
 walk_at "u"
 exact jB Ji (by
  intro G H x y dx dy d Q s rx ry e q
  unfold vM at e
  split at e
  ·cases e
   exact ⟨_,_,rx.int_inv,ry.int_inv,q _ G H (.refl s) (.int _)⟩
  ·cases e) ha hb
theorem Gx {a b:Expr} {ga:Ev->R D} (ha:PF X a ga) (hb:PF X b gb):PF X (.BinOp a .FloorDiv b pos) (g2 Dl ga gb):=by
 walk_at "u"
 exact jB Fc (by
  intro G H x y dx dy d Q s rx ry e q
  unfold Dl at e
  split at e
  ·split at e
   ·rename_i hc
    cases e
    exact ⟨_,_,rx.int_inv,ry.int_inv,hc,q _ G H (.refl s) (.int _)⟩
   ·cases e
  ·cases e) ha hb
theorem xw {a b:Expr} {ga:Ev->R D} (ha:PF X a ga) (hb:PF X b gb):PF X (.BinOp a .Mod b pos) (g2 zT ga gb):=by
 walk_at "u"
 exact jB HN (by
  intro G H x y dx dy d Q s rx ry e q
  unfold zT at e
  split at e
  ·split at e
   ·rename_i hc
    cases e
    exact ⟨_,_,rx.int_inv,ry.int_inv,hc,q _ G H (.refl s) (.int _)⟩
   ·cases e
  ·cases e) ha hb
end
section
variable {X:Cx} {a b c e:Expr} {ga gb gc:Ev->R D} {pos:Pos}
theorem Kc (ha:PF X a ga) (hb:PF X b gb):PF X (.Compare a [.LtE] [b] pos) (g2 leD ga gb):=by
 with_unfolding_all exact wP pA (ym _) ha hb (jP _)
theorem vC (ha:PF X a ga) (hb:PF X b gb) (hc:PF X c gc) (hm:lastMarks [.LtE,.LtE] [b,c]=false:=by with_unfolding_all rfl):PF X (.Compare a [.LtE,.LtE] [b,c] pos) (g3 leD leD ga gb gc):=by
 with_unfolding_all exact yt pA pA (ym _) (ym _) ha hb hc hm
end
section
variable {X:Cx} {a b:Expr} {ga gb:Ev->R D} {pos:Pos}
theorem oY (hu:X.A.units+64<cLine) (ha:PF X a ga) (hb:PF X b gb):PF X (.Compare a [.Eq] [b] pos) (g2 eqF ga gb):=by
 walk_at "u"
 exact wP (DD hu) (by
  intro G H x y dx dy d Q s rx ry e q
  unfold eqF at e
  cases e1:eqD 40 dx dy with
  | none=>rw [e1] at e;cases e
  | some k=>rw [e1] at e;cases e;exact ⟨G,dx,dy,k,s,rx,ry,e1,q _ G H (.refl s) (.bl k)⟩) ha hb (jP _)
end
section
variable {X:Cx} {a b c e:Expr} {es cJ:List Expr} {ga gb gc:Ev->R D} {gt gu:Ev->R Bool} {gl:Ev->R (List D)} {pos:Pos}
theorem hU {op:BoolOp} (h:PF X a ga):PF X (.BoolOp op [a] pos) ga:=by
 with_unfolding_all exact JD h
theorem gF (ha:PF X a ga) (hb:PF X (.BoolOp .And (b::cJ) pos) gb):PF X (.BoolOp .And (a::b::cJ) pos) (oX ga gb):=by
 walk_at "u"
 intro pins s σ H Q I h
 refine Ih ha hb pins s σ H Q I ?_
 obtain ⟨G,ρ,st,h⟩:=h
 refine tG.intro st h fun x v G1 H1 u1 st1 r1 h1=>?_
 obtain ⟨c,ec,ed,h2⟩:=asB.ok r1 h1
 subst ec ed
 refine ⟨c,rfl,?_⟩
 cases c with
 | true=>rw [if_pos rfl] at h2 ⊢;exact tG.last st1 h2
 | false=>rw [if_neg Bool.false_ne_true] at h2 ⊢;exact h2 _ G1 H1 (.refl st1.sub) (.bl false)
theorem Jn (ha:PF X a ga) (hb:PF X (.BoolOp .Or (b::cJ) pos) gb):PF X (.BoolOp .Or (a::b::cJ) pos) (gOr ga gb):=by
 walk_at "u"
 intro pins s σ H Q I h
 refine LL ha hb pins s σ H Q I ?_
 obtain ⟨G,ρ,st,h⟩:=h
 refine tG.intro st h fun x v G1 H1 u1 st1 r1 h1=>?_
 obtain ⟨c,ec,ed,h2⟩:=asB.ok r1 h1
 subst ec ed
 refine ⟨c,rfl,?_⟩
 cases c with
 | true=>rw [if_pos rfl] at h2 ⊢;exact h2 _ G1 H1 (.refl st1.sub) (.bl true)
 | false=>rw [if_neg Bool.false_ne_true] at h2 ⊢;exact tG.last st1 h2
theorem GP (ha:PF X a ga):PF X (.UnaryOp .Not a pos) (K4 ga):=by
 walk_at "u"
 intro pins s σ H Q I h
 refine GW ha pins s σ H Q I ?_
 obtain ⟨G,ρ,st,h⟩:=h
 refine tG.intro st h fun x v G1 H1 u1 st1 r1 h1=>?_
 obtain ⟨c,ec,ed,h2⟩:=asB.ok r1 h1
 subst ec ed
 exact ⟨c,rfl,h2 _ G1 H1 (.refl st1.sub) (.bl _)⟩
theorem KC (ha:PF X a ga) (hb:PF X b gb):PB X (.Compare a [.GtE] [b] pos) (fun ρ=>g2 geD ga gb ρ>>=asB):=by
 with_unfolding_all exact fV KR (Lv _) ha hb (jP _)
theorem wI (ha:PB X a gt):PBW X (.BoolOp .And [a] pos) gt:=by
 with_unfolding_all exact Gb ha
theorem fE (ha:PB X a gt):PBW X (.BoolOp .Or [a] pos) gt:=by
 with_unfolding_all exact IW ha
theorem Ae (ha:PB X a gt) (hb:PBW X (.BoolOp .And (b::cJ) pos) gu):PBW X (.BoolOp .And (a::b::cJ) pos) (BN gt gu):=by
 walk_at "u"
 intro whole pins s σ H Q I h
 refine Jv ha hb whole pins s σ H Q I ?_
 obtain ⟨G,ρ,st,h⟩:=h
 refine tG.intro st h fun x v G1 H1 u1 st1 r1 h1=>?_
 subst r1
 cases v with
 | true=>rw [if_pos rfl] at h1 ⊢;exact tG.last st1 h1
 | false=>rw [if_neg Bool.false_ne_true] at h1 ⊢;exact h1 _ G1 H1 (.refl st1.sub) rfl
theorem iX (ha:PB X a gt) (hb:PBW X (.BoolOp .Or (b::cJ) pos) gu):PBW X (.BoolOp .Or (a::b::cJ) pos) (ud gt gu):=by
 walk_at "u"
 intro whole pins s σ H Q I h
 refine KQ ha hb whole pins s σ H Q I ?_
 obtain ⟨G,ρ,st,h⟩:=h
 refine tG.intro st h fun x v G1 H1 u1 st1 r1 h1=>?_
 subst r1
 cases v with
 | true=>rw [if_pos rfl] at h1 ⊢;exact h1 _ G1 H1 (.refl st1.sub) rfl
 | false=>rw [if_neg Bool.false_ne_true] at h1 ⊢;exact tG.last st1 h1
theorem B4 (hc:PB X c gt) (ha:PF X a ga) (hb:PF X b gb):PF X (.IfExp c a b pos) (gIf gt ga gb):=by
 walk_at "u"
 intro pins s σ H Q I h
 refine Cz hc ha hb pins s σ H Q I ?_
 obtain ⟨G,ρ,st,h⟩:=h
 refine tG.intro st h fun x v G1 H1 u1 st1 r1 h1=>?_
 subst r1
 cases v with
 | true=>rw [if_pos rfl] at h1 ⊢;exact tG.last st1 h1
 | false=>rw [if_neg Bool.false_ne_true] at h1 ⊢;exact tG.last st1 h1
theorem ae:PFA X [] (fun _=>.ok []):=by
 with_unfolding_all exact tK
theorem aI (ha:PF X a ga) (hb:PF X b gb) (hs:va b:=by exact fun _ _=>rfl):PF X (.Subscript a b pos) (g2 ixD ga gb):=by
 walk_at "u"
 exact fun pins s σ H Q I h=>Jx Iw ha hb hs pins s σ H Q I (BP (Kb _) h)
end
section
variable {X:Cx} {a b c e:Expr} {es cJ:List Expr} {lo hi:Option Expr} {ga gb gc:Ev->R D} {go gp:Ev->R (Option Int)} {gl:Ev->R (List D)} {pos p2:Pos}
theorem cM:PFO X none (fun _=>.ok none):=by
 walk_at "u"
 intro pins s σ H Q I h
 obtain ⟨G,ρ,st,h⟩:=h
 exact Gq pins s σ H Q I (h none G H (.refl st.sub) rfl)
theorem cF (ha:PF X a ga) (hl:PFO X lo go) (hu:PFO X hi gp):PF X (.Subscript a (.Slice lo hi none p2) pos) (gSl ga go gp):=by
 walk_at "u"
 intro pins s σ H Q I h
 refine BW Iu ha hl hu pins s σ H Q I ?_
 obtain ⟨G,ρ,st,h⟩:=h
 refine tG.intro st h fun x v G1 H1 u1 st1 r1 h1=>?_
 refine tG.intro st1 h1 fun l l' G2 H2 u2 st2 r2 h2=>?_
 subst r2
 refine tG.intro st2 h2 fun u u' G3 H3 u3 st3 r3 h3=>?_
 subst r3
 obtain ⟨d,e,q⟩:=ofO.ok h3
 have r:=(r1.mono u2.gg).mono u3.gg
 unfold D7 at e
 split at e
 ·cases e
  obtain ⟨y,rfl,ey,hy⟩:=r.str_inv
  subst ey
  exact .inl ⟨y,rfl,hy,q _ G3 H3 (.refl st3.sub) (.strL (Bg y _ _) (Nat.le_trans (E3 _ _ _) (by rw [Str.len_list];exact hy)))⟩
 ·rename_i xs0
  cases e
  obtain ⟨a,vs,rfl,h,t⟩:=r.tup_inv
  by_cases hw:HT.sIx vs.length 0 l'=0/\HT.sIx vs.length vs.length u'=vs.length
  ·refine .inr (.inl ⟨a,vs,rfl,h.mono st3.sub,hw,q _ G3 H3 (.refl st3.sub) ?_⟩)
   have e1:jT xs0 l' u'=xs0:=by
    unfold jT
    rw [<- t.length,hw.1,hw.2,List.drop_zero,Nat.sub_zero,t.length,List.take_length]
   rw [e1]
   exact .tup h t
  ·exact .inr (.inr (.inl ⟨a,vs,rfl,h.mono st3.sub,hw,fun p hp=>q _ _ _ (.new st3.sub hp) (.tup (.of bc) ((t.cut _ _).mono (.into (st3.sub.free hp))))⟩))
 ·cases e
  obtain ⟨a,vs,rfl,h,t⟩:=r.seq_inv
  exact .inr (.inr (.inr ⟨a,vs,rfl,h.mono st3.sub,fun p hp=>q _ _ _ (.new st3.sub hp) (.lst bc ((t.cut _ _).mono (.into (st3.sub.free hp))))⟩))
 ·cases e
theorem zS {T:String} {r:List V->Hp->VK->Prop} {f:List D->Option D} (hc:nJ X (.type T) r) (hf:JK X.K r f) (hg:Gl X x) (hm:X.mg x=none) (hv:bootBuiltins x=some (.type T)) (ha:PFA X (e::es) gl)
 (hn:x ≠ "__name__":=by decide) (hdb:(x==("__debug__":Str))=false:=by decide)
 (he:starEach (e::es) X.env=(false,eval e X.env)::starEach es X.env:=by rfl) (hpl:(backTo pos (starEach es X.env)).any (·.1)=false:=by rfl):PF X (.Call (.Name x p) (e::es) [] pos) (fun ρ=>gl ρ>>=fun ds=>ofO (f ds)):=by
 walk_at "u"
 intro pins s σ H Q I h
 refine nz hc hg hm hv ha hn hdb he hpl pins s σ H Q I ?_
 obtain ⟨G,ρ,st,h⟩:=h
 refine tG.intro st h fun ds vs G1 H1 u1 st1 r1 h1=>?_
 obtain ⟨d,e,q⟩:=ofO.ok h1
 exact hf G1 H1 vs ds d Q st1.sub r1 e q
end
section
theorem zb {c:Expr} {gt:Ev->R Bool} (h:PB X c gt):PTs X [c] gt:=by
 walk_at "u"
 exact fun pins s σ H Q I q=>wpAny_tests_one (h pins s σ H Q I q)
end
section
variable {X:Cx} {elt iter:Expr} {ifs:List Expr} {x:Str} {px pos:Pos} {scope:Scope} {N':List Str} {ix:List Nat} {gi:Ev->R (List D)} {gt:Ev->R Bool} {ge:Ev->R D}
theorem dY (ok:CompOk X scope x N' ix) (hcalm:X.calm=true) (hi:PIF X (.Name x px) iter gi) (he:∀ C s₂ H₂ fp,PF (bT X N' scope C s₂ H₂ fp) elt ge) (ht:∀ C s₂ H₂ fp,PTs (bT X N' scope C s₂ H₂ fp) ifs gt)
 (hs:∀ x,foldedSetIterable iter X.env x=pure x:=by intro _;rfl):PFL X (.ListComp elt [⟨.Name x px,iter,ifs,0⟩] scope pos) (gm gi ix gt ge):=by
 walk_at "u"
 intro pins s σ H Q I h
 obtain ⟨G,ρ,st,h⟩:=h
 rw [eval_ListComp]
 refine wpAny_comprehension_free (use:=none) rfl hs (jv fun y hy hy2=>I.ok.has y.1 (.inl (ok.fr y hy hy2))) ok.kind ok.names ?_
 have t:tG X (fun G J items=>ItOk X.K G J items) gi σ H (fun J H1=>∃ G1 items,Up G H G1 H1/\StE X.K G1 H1 σ ρ/\ItOk X.K G1 J items/\(eO gt ge items (gW ix ρ)>>=fun ds=>if ds.length<=sizeLine then R.ok ds else .no).post (yw X.K G H Q) (Exx X σ G H)):=by
  refine ⟨G,ρ,st,?_⟩
  unfold gm at h
  cases e:gi ρ with
  | ok items=>rw [e] at h;exact fun J G1 H1 u r=>⟨G1,items,u,st.up u,r,h⟩
  | ex C=>rw [e] at h;exact h
  | no=>rw [e] at h;exact h
 refine thn (hi pins s σ H _ I t) fun v s1 h1=>thn h1 fun itv s2 h2=>?_
 obtain ⟨it,fp,tn,J,H2,e,I2,T,st2,f2,G2,items,u2,sE2,iok,h2⟩:=h2
 subst e
 have h2':(eO gt ge items (gW ix ρ)>>=fun ds=>if ds.length<=sizeLine then R.ok ds else .no).post (yw X.K G2 H2 Q) (Exx X σ G2 H2):=
  h2.mono (fun ds q l vs G' H' u hl r=>q l vs G' H' (u2.trans u) hl r) fun C q=>q.up u2
 refine tR (iter:=iter) (pos:=pos) (RR:=fun acc C=>compPost (model X.prog X.w) X.A X.xe none (EP X pins σ Q) acc C) ok hcalm he ht I2 T st2 f2 sE2 iok h2' ?_
 intro Dd C s' m vs G' H' up hd hCD _ q hm hos hb hC hCl un hok
 refine ⟨m,hm,fun h' hs'=>?_⟩
 have I3:=I2.call' (H':=upd H' Dd (.lst vs)) (s':={ s' with heap:=h' }) (ch:=fp) hos (un.sameBut (fun b o hbc e=>hs'.extBut b o hbc e) hCl) (hok.sameBut (fun b o hbc e=>hs'.extBut b o hbc e) (by rw [aU hCD];exact hC)) hb fun b hb'=>by
  obtain ⟨f0,f1,f2',f3,f4,f5⟩:=f2 b hb'
  exact ⟨f3,f1,f4,f5⟩
 exact ⟨.ref Dd,_,I3,rfl,q⟩
end
section
theorem Fun.okF {w:World} {K:PySem.W.Frag} {mg:Str->Option Value} {base:Heap} {N:List Str} (F:Fun K x qual st f fd) (S:FnScope N ps (ao st)) {g:Ev->O}
 (hbody:∀ (cdv:Value) (A:Around) (outer:List Env) (s:Shared) (H:Hp) (E:XK),Room k (A.deeper (envOfC qual (ao st) s.heap.objs.size f cdv))->wK (lC (CXo P w) P w K mg base N qual (ao st) f cdv A outer s H E) (cI st) g):FnF P w K mg base (k+1) f fd ps (fun ds=>aq (g (ar N.length ds))):=by
 walk_at "u"
 obtain ⟨oc,od,kV,doc,pm,an,cdv,ct,osl,rfl,lk,hcd⟩:=F.ex
 refine Gy lk hcd S (fun vs H Q E h=>h.1) fun A outer s H vs Q E hr hsp=>?_
 obtain ⟨hl,G,ds,sub,r,h⟩:=hsp
 refine ⟨_,hbody cdv A outer s H E hr G H,G,ar N.length ds,xC sub r,?_⟩
 dsimp only at h
 cases q:g (ar N.length ds) with
 | nx ρ=>rw [q] at h;exact fun σ G' H' sr=>h .non G' H' sr.up .non
 | rt d=>rw [q] at h;exact fun v G' H' u rv=>h v G' H' u rv
 | re d ρ=>rw [q] at h;exact fun v σ G' H' sr rv=>h v G' H' sr.up rv
 | bk ρ=>rw [q] at h;exact h.elim
 | ct ρ=>rw [q] at h;exact h.elim
 | ex C ρ=>rw [q] at h;exact fun e s' fl=>qI fl h
 | no=>rw [q] at h;exact h.elim
end
section
variable {X:Cx}
theorem eM {a b:Expr} {ga:Ev->R D} (ha:PF X a ga) (hb:PF X b gb):PF X (.BinOp a .Mult b pos) (g2 fH ga gb):=by
 with_unfolding_all exact jB FN (Ht _) ha hb
end
section
variable {X:Cx} {e o:Expr} {es:List Expr} {ga gb:Ev->R D} {gl:Ev->R (List D)} {pos:Pos}
theorem Gh {T id:String} {ap cp:Pos} {r:V->List V->Hp->VK->Prop} {f:D->List D->Option D} (pa:PlainAttrs T) (slot:PySem.Slot T name id) (hty:typeOf (.builtin id)=pure (.type "method_descriptor")) (hm:MtR X id r) (hf:JQ X.K T r f) (ho:PF X o ga) (ha:PFA X (e::es) gl)
 (hbase:attributeBase o name X.env (eval o X.env)=eval o X.env:=by rfl)
 (hfew:((backTo cp (starEach (e::es) X.env)).all (fun x=>!x.1) && (backToKw cp (keywordEach [] X.env)).all (fun x=>x.1.isSome)
 && decide ((e::es).length+([]:List Keyword).length+(if ([]:List Keyword).isEmpty then 0 else 1)<30))=true:=by rfl)
 (hline:(ap.endLine==cp.line)=true:=by rfl) (hs:starEach (e::es) X.env=(false,eval e X.env)::starEach es X.env:=by rfl) (hplain:(backTo cp (starEach es X.env)).any (·.1)=false:=by rfl):PF X (.Call (.Attribute o name ap) (e::es) [] cp) (fun ρ=>ga ρ>>=fun x=>if oB T x=true then gl ρ>>=fun ds=>ofO (f x ds) else .no):=by
 with_unfolding_all exact rS pa slot hty hm hf ho ha hbase hfew hline hs hplain
end
section
variable {X:Cx} {st:Stmt} {cJ body sa sb:List Stmt} {e a b c o tg:Expr} {es:List Expr} {g gs1 gs2:Ev->O} {ga gb gc:Ev->R D} {gt:Ev->R Bool} {gl:Ev->R (List D)} {pos p p2:Pos} {x:Str}
theorem af (h1:PSF X st gs1) (h2:wK X cJ gs2):wK X (st::cJ) (aC gs1 gs2):=by
 with_unfolding_all exact tj h1 h2
theorem aA:wK X [] oNx:=by
 with_unfolding_all exact vp
theorem bA (he:PF X e ga):PSF X (.Return (some e) pos) (cw ga):=by
 with_unfolding_all exact xR he
theorem iG (hc:PB X c gt) (ha:wK X sa gs1) (hb:wK X sb gs2):PSF X (.If c sa sb pos) (oIf gt gs1 gs2):=by
 with_unfolding_all exact zO hc ha hb
theorem zr (i:Nat) (hN:X.N.Nodup) (he:PFL X e gl) (hi:X.N[i]?=some x:=by rfl) (hx:Loc X.env.scope x:=by first|exact Or.inl rfl|exact Or.inr rfl)
 (hs:swapsWithSole [.Name x p] e pos.line X.env=pure false:=by rfl) (hw:swappedStores [.Name x p] e X.env=pure none:=by rfl) (hf:X.fn x=true\/X.env.scope.names.lookup x=some .local:=by first|exact .inl rfl|exact .inr rfl):PSF X (.Assign [.Name x p] e pos) (BD i gl):=by
 with_unfolding_all exact yO i hN he hi hx hs hw hf
theorem lh (he:PF X e ga) (hs:swapsWith e none pos.line X.env=pure false:=by rfl):PSF X (.Expr e pos) (oW ga):=by
 with_unfolding_all exact vW he hs
theorem lD (hp:PassesOwn (model X.prog X.w) X.A X.env X.xe) (hcalm:X.calm=true) (hi:PIF X tg iter gi) (hg:PGF X tg asg) (hb:wK X body g)
 (hs:∀ x,foldedSetIterable iter X.env x=pure x:=by intro _;rfl) (hn:∀ d ρ C,asg d ρ ≠ .ex C:=by intro _ _ _ z;cases z):PSF X (.For tg iter body [] pos) (sK asg gi g):=by
 with_unfolding_all exact yD hp hcalm hi hg hb hs hn
theorem dw (hg:Gl X "len") (hm:X.mg "len"=none) (ha:PFA X [e] gl) (he:starEach [e] X.env=[(false,eval e X.env)]:=by rfl):PF X (.Call (.Name "len" p) [e] [] pos) (gOf eS gl):=by
 with_unfolding_all exact Db hg hm ha he
theorem EF (hc:X.calm=true) (hg:Gl X "all") (hm:X.mg "all"=none) (ha:PFA X [e] gl) (he:starEach [e] X.env=[(false,eval e X.env)]:=by rfl):PF X (.Call (.Name "all" p) [e] [] pos) (gOf DF gl):=by
 with_unfolding_all exact BM hc hg hm ha he
theorem ac (ha:PF X e ga) (hr:PFA X es gl) (hs:starEach (e::es) X.env=(false,eval e X.env)::starEach es X.env:=by rfl):PFA X (e::es) (aa ga gl):=by
 with_unfolding_all exact rQ ha hr hs
theorem aG {n:Nat} {f:List D->R D} (c:Callee X.prog X.w X.K X.mg X.base x k n f) (hr:Room k X.A) (ha:PFA X (e::es) gl) (hg:Gl X x:=by rfl)
 (hdb:(x==("__debug__":Str))=false:=by decide) (he:starEach (e::es) X.env=(false,eval e X.env)::starEach es X.env:=by rfl) (hpl:(backTo pos (starEach es X.env)).any (·.1)=false:=by rfl):PF X (.Call (.Name x p) (e::es) [] pos) (aM n f gl):=by
 with_unfolding_all exact xK c hr ha hg hdb he hpl
theorem jq {gens:List Comprehension} {sc:Scope} (h:PFL X (.ListComp e gens sc pos) gl):PF X (.ListComp e gens sc pos) (cu gl):=by
 with_unfolding_all exact pF h
theorem pP (h:PFL X (.List es pos) gl):PF X (.List es pos) (cu gl):=by
 with_unfolding_all exact pF h
theorem lI (h:PFA X es gl):PFL X (.List es pos) (vJ gl):=by
 with_unfolding_all exact zV h
theorem di (h:PFA X es gl):PF X (.Tuple es k pos) (aH mkT gl):=by
 with_unfolding_all exact Ch h
theorem Ak (ha:PF X a ga):PF X (.UnaryOp .USub a pos) (aH CA ga):=by
 with_unfolding_all exact CM ha
theorem E5 (hm:X.mg "isinstance"=none) (ha:PF X e ga) (hm2:X.mg "int"=none) (hg2:Gl X "int":=by rfl) (hg:Gl X "isinstance":=by rfl) (hs1:starEach [e,.Name "int" p2] X.env=(false,eval e X.env)::starEach [.Name "int" p2] X.env:=by rfl):PF X (.Call (.Name "isinstance" p) [e,.Name "int" p2] [] pos) (aH (jA isInt) ga):=by
 with_unfolding_all exact yG hm ha hm2 hg2 hg hs1
theorem B3 (hm:X.mg "isinstance"=none) (ha:PF X e ga) (hm2:X.mg "bool"=none) (hg2:Gl X "bool":=by rfl) (hg:Gl X "isinstance":=by rfl) (hs1:starEach [e,.Name "bool" p2] X.env=(false,eval e X.env)::starEach [.Name "bool" p2] X.env:=by rfl):PF X (.Call (.Name "isinstance" p) [e,.Name "bool" p2] [] pos) (aH (jA (·=="bool")) ga):=by
 with_unfolding_all exact vi hm ha hm2 hg2 hg hs1
theorem EC (hm:X.mg "isinstance"=none) (ha:PF X e ga) (hm2:X.mg "str"=none) (hg2:Gl X "str":=by rfl) (hg:Gl X "isinstance":=by rfl) (hs1:starEach [e,.Name "str" p2] X.env=(false,eval e X.env)::starEach [.Name "str" p2] X.env:=by rfl):PF X (.Call (.Name "isinstance" p) [e,.Name "str" p2] [] pos) (aH (jA (·=="str")) ga):=by
 with_unfolding_all exact xZ hm ha hm2 hg2 hg hs1
theorem jR (hm:X.mg "isinstance"=none) (ha:PF X e ga) (hm2:X.mg "tuple"=none) (hg2:Gl X "tuple":=by rfl) (hg:Gl X "isinstance":=by rfl) (hs1:starEach [e,.Name "tuple" p2] X.env=(false,eval e X.env)::starEach [.Name "tuple" p2] X.env:=by rfl):PF X (.Call (.Name "isinstance" p) [e,.Name "tuple" p2] [] pos) (aH (jA (·=="tuple")) ga):=by
 with_unfolding_all exact tM hm ha hm2 hg2 hg hs1
theorem fq (h:PF X e ga):PFO X (some e) (iy ga):=by
 with_unfolding_all exact yT h
theorem A8 (ha:PF X a ga) (hb:PF X b gb):PB X (.Compare a [.Lt] [b] pos) (gB2 ltD ga gb):=by
 with_unfolding_all exact ER ha hb
theorem LG (ha:PF X a ga) (hb:PF X b gb):PB X (.Compare a [.LtE] [b] pos) (gB2 leD ga gb):=by
 with_unfolding_all exact FE ha hb
theorem Ar (ha:PF X a ga) (hb:PF X b gb):PB X (.Compare a [.Gt] [b] pos) (gB2 gtD ga gb):=by
 with_unfolding_all exact FM ha hb
theorem qT (hu:X.A.units+64<cLine) (ha:PF X a ga) (hb:PF X b gb):PB X (.Compare a [.Eq] [b] pos) (gB2 eqF ga gb):=by
 with_unfolding_all exact FP hu ha hb
theorem oZ (hu:X.A.units+64<cLine) (ha:PF X a ga) (hb:PF X b gb):PB X (.Compare a [.NotEq] [b] pos) (gB2 neF ga gb):=by
 with_unfolding_all exact Ff hu ha hb
theorem K5 (ha:PF X a ga) (hb:PF X b gb):PB X (.Compare a [.Is] [b] pos) (gB2 isF ga gb):=by
 with_unfolding_all exact E1 ha hb
theorem Gv (ha:PF X a ga) (hb:PF X b gb) (hc:PF X c gc) (hm:lastMarks [.LtE,.LtE] [b,c]=false:=by with_unfolding_all rfl):PB X (.Compare a [.LtE,.LtE] [b,c] pos) (gB3 leD leD ga gb gc):=by
 with_unfolding_all exact Ab ha hb hc hm
theorem gK (ha:PB X a gt):PB X (.UnaryOp .Not a pos) (gBn gt):=by
 with_unfolding_all exact Cm ha
theorem gH (h:PF X (.Call a es [] pos) ga):PB X (.Call a es [] pos) (aH kn ga):=by
 with_unfolding_all exact pS h
theorem lK {op:BoolOp} (h:PBW X (.BoolOp op es pos) gt):PB X (.BoolOp op es pos) gt:=by
 walk_at "u"
 exact fun pins s σ H Q I q=>h _ pins s σ H Q I q
theorem Cl {ap cp:Pos} (ho:PF X o ga) (ha:PFA X [e] gl) (hbase:attributeBase o "rstrip" X.env (eval o X.env)=eval o X.env:=by rfl)
 (hfew:((backTo cp (starEach [e] X.env)).all (fun x=>!x.1) && (backToKw cp (keywordEach [] X.env)).all (fun x=>x.1.isSome)
 && decide ([e].length+([]:List Keyword).length+(if ([]:List Keyword).isEmpty then 0 else 1)<30))=true:=by rfl)
 (hline:(ap.endLine==cp.line)=true:=by rfl) (hs:starEach [e] X.env=(false,eval e X.env)::starEach [] X.env:=by rfl):PF X (.Call (.Attribute o "rstrip" ap) [e] [] cp) (sv "str" kB ga gl):=by
 with_unfolding_all exact uY ho ha hbase hfew hline hs
theorem gL (ha:PF X a ga):PIF X tg a (aH ce ga):=by
 with_unfolding_all exact AW ha
theorem lP (hg:Gl X "range") (hm:X.mg "range"=none) (ha:PFA X [a] gl) (hs:starEach [a] X.env=[(false,eval a X.env)]:=by rfl):PIF X tg (.Call (.Name "range" p) [a] [] pos) (aH cr gl):=by
 with_unfolding_all exact rO hg hm ha hs
end
section
variable {X:Cx} {N:List Str} {i:Nat} {x:Str} {pos:Pos}
theorem ad {w:World} {K:PySem.W.Frag} {mg:Str->Option Value} {base:Heap} {A:Around} {outer:List Env} {E:XK} (h:At N i x)
 (hv:Vis (lC CX P w K mg base N qual scope f cdv A outer s H E).env.scope x:=by first|exact Or.inl rfl|exact Or.inr (Or.inl rfl)|exact Or.inr (Or.inr rfl)) (hd:(x==("__debug__":Str))=false:=by decide)
 (hcd:(x==("__classdict__":Str))=false:=by decide):PF (lC CX P w K mg base N qual scope f cdv A outer s H E) (.Name x pos) (fun ρ=>rdV ρ i):=by
 with_unfolding_all exact wR i h hv hd hcd
theorem bX {s₂:Shared} {H₂:Hp} (h:At N i x)
 (hv:Vis (bT X N scope C s₂ H₂ fp).env.scope x:=by first|exact Or.inl rfl|exact Or.inr (Or.inl rfl)|exact Or.inr (Or.inr rfl)) (hd:(x==("__debug__":Str))=false:=by decide)
 (hcd:(x==("__classdict__":Str))=false:=by decide):PF (bT X N scope C s₂ H₂ fp) (.Name x pos) (fun ρ=>rdV ρ i):=by
 with_unfolding_all exact wR i h hv hd hcd
theorem ck {w:World} {K:PySem.W.Frag} {mg:Str->Option Value} {base:Heap} {A:Around} {outer:List Env} {E:XK} {e:Expr} {ga:Ev->R D} (h:At N i x) (hN:N.Nodup)
 (he:PF (lC CX P w K mg base N qual scope f cdv A outer s H E) e ga) (hx:Loc (lC CX P w K mg base N qual scope f cdv A outer s H E).env.scope x:=by first|exact Or.inl rfl|exact Or.inr rfl)
 (hs:swapsWithSole [.Name x p] e pos.line (lC CX P w K mg base N qual scope f cdv A outer s H E).env=pure false:=by rfl) (hw:swappedStores [.Name x p] e (lC CX P w K mg base N qual scope f cdv A outer s H E).env=pure none:=by rfl)
 (hf:(lC CX P w K mg base N qual scope f cdv A outer s H E).fn x=true\/(lC CX P w K mg base N qual scope f cdv A outer s H E).env.scope.names.lookup x=some .local:=by first|exact .inl rfl|exact .inr rfl):PSF (lC CX P w K mg base N qual scope f cdv A outer s H E) (.Assign [.Name x p] e pos) (eF i ga):=by
 with_unfolding_all exact FO i hN he h hx hs hw hf
end
section
theorem kw {e:Expr} {ga:Ev->R D} {np cp:Pos} (r:Ref x C X.mg X.base) (hh:X.A.handled=none) (ha:PF X e ga) (hg:Gl X x:=by rfl)
 (hdb:(x==("__debug__":Str))=false:=by decide) (hs:starEach [e] X.env=(false,eval e X.env)::starEach [] X.env:=by rfl):PSF X (.Raise (some (.Call (.Name x np) [e] [] cp)) none pos) (jM C (aa ga fun _=>.ok [])):=by
 walk_at "u"
 obtain ⟨bm,B,newId,initId,Oc,FB⟩:=r.ex
 exact rJ Oc FB hh hg (rQ ha tK hs) hdb hs (fun ρ ds h=>FT h)
end
section
variable {X:Cx} {elt iter:Expr} {ifs:List Expr} {x:Str} {px pos:Pos} {scope:Scope} {N':List Str} {ix:List Nat} {gi:Ev->R (List D)} {gt:Ev->R Bool} {ge:Ev->R D}
theorem Ex (i:Nat) {py spos:Pos} (hN:X.N.Nodup) (ok:CompOk X scope x N' ix) (hcalm:X.calm=true) (hi:PIF X (.Name x px) iter gi) (he:∀ C s₂ H₂ fp,PF (bT X N' scope C s₂ H₂ fp) elt ge) (ht:∀ C s₂ H₂ fp,PTs (bT X N' scope C s₂ H₂ fp) ifs gt)
 (hni:X.N[i]?=some y:=by rfl) (hy:X.env.scope.names.lookup y=some .local:=by rfl) (hs:∀ x,foldedSetIterable iter X.env x=pure x:=by intro _;rfl)
 (hsw:swapsWith (.ListComp elt [⟨.Name x px,iter,ifs,0⟩] scope pos) (some (.Name y py)) spos.line X.env=pure true:=by rfl):PSF X (.Assign [.Name y py] (.ListComp elt [⟨.Name x px,iter,ifs,0⟩] scope pos) spos) (BD i (gm gi ix gt ge)):=by
 with_unfolding_all exact xV (n:=1) (asg:=kU 0) i hN ok.t hcalm (fun C s₂ H₂ fp=>dU (X:=bT X N' scope C s₂ H₂ fp) (pos:=px) 0 ok.nd ok.hd (.inl (lookup_relabel_local ok.loc)) (.inr (lookup_relabel_local ok.loc))) wO hi he ht hni hy hs hsw
end
section
variable {X:Cx} {st:Stmt} {cJ body:List Stmt} {e c o:Expr} {es:List Expr} {g:Ev->O} {ga:Ev->R D} {gl:Ev->R (List D)} {pos p p2:Pos}
theorem wJ (i:Nat) {ap cp:Pos} (he:PF X e ga) (hi:X.N[i]?=some x:=by rfl) (hv:Vis X.env.scope x:=by first|exact Or.inl rfl|exact Or.inr (Or.inl rfl))
 (hd:(x==("__debug__":Str))=false:=by decide) (hcd:(x==("__classdict__":Str))=false:=by decide) (hs1:starEach [e] X.env=(false,eval e X.env)::starEach [] X.env:=by rfl)
 (hbase:attributeBase (.Name x p) "extend" X.env (eval (.Name x p) X.env)=eval (.Name x p) X.env:=by rfl)
 (hfew:((backTo cp (starEach [e] X.env)).all (fun x=>!x.1) && (backToKw cp (keywordEach [] X.env)).all (fun x=>x.1.isSome)
 && decide ([e].length+([]:List Keyword).length+(if ([]:List Keyword).isEmpty then 0 else 1)<30))=true:=by rfl)
 (hline:(ap.endLine==cp.line)=true:=by rfl)
 (hs:swapsWith (.Call (.Attribute (.Name x p) "extend" ap) [e] [] cp) none pos.line X.env=pure false:=by rfl):PSF X (.Expr (.Call (.Attribute (.Name x p) "extend" ap) [e] [] cp) pos) (JR i ga):=by
 with_unfolding_all exact qE i he hi hv hd hcd hs1 hbase hfew hline hs
theorem jz (i:Nat) {ap cp:Pos} (he:PF X e ga) (hi:X.N[i]?=some x:=by rfl) (hv:Vis X.env.scope x:=by first|exact Or.inl rfl|exact Or.inr (Or.inl rfl))
 (hd:(x==("__debug__":Str))=false:=by decide) (hcd:(x==("__classdict__":Str))=false:=by decide) (hs1:starEach [e] X.env=(false,eval e X.env)::starEach [] X.env:=by rfl)
 (hbase:attributeBase (.Name x p) "append" X.env (eval (.Name x p) X.env)=eval (.Name x p) X.env:=by rfl)
 (hfew:((backTo cp (starEach [e] X.env)).all (fun x=>!x.1) && (backToKw cp (keywordEach [] X.env)).all (fun x=>x.1.isSome)
 && decide ([e].length+([]:List Keyword).length+(if ([]:List Keyword).isEmpty then 0 else 1)<30))=true:=by rfl)
 (hline:(ap.endLine==cp.line)=true:=by rfl)
 (hs:swapsWith (.Call (.Attribute (.Name x p) "append" ap) [e] [] cp) none pos.line X.env=pure false:=by rfl):PSF X (.Expr (.Call (.Attribute (.Name x p) "append" ap) [e] [] cp) pos) (EX i ga):=by
 with_unfolding_all exact pX i he hi hv hd hcd hs1 hbase hfew hline hs
theorem Ep (h:PF X (.Name x pos) ga):PB X (.Name x pos) (aH kn ga):=by
 with_unfolding_all exact pS h
theorem sx {sts:List Stmt} (i:Nat) (h:wK X sts g):wK X sts (BB i g):=by
 with_unfolding_all exact uu i h
end
section
variable {X:Cx} {st:Stmt} {cJ body a b:List Stmt} {e c tg:Expr} {g g1 g2:Ev->O} {ga gb:Ev->R D} {gt:Ev->R Bool} {gl:Ev->R (List D)} {pos:Pos}
theorem JY (i:Nat) (hc:PB X c gt) (ha:wK X a g1) (hb:wK X b g2):PSF X (.If c a b pos) (J8 i gt g1 g2):=by
 walk_at "u"
 exact fun G₀ H₀ pins s σ H D I h=>by
  refine H8 hc (ha G₀ H₀) (hb G₀ H₀) pins s σ H D I ?_
  obtain ⟨G,ρ,sr,h⟩:=h
  have h:lj X G₀ H₀ D ((dH (gt (frz i ρ))).out ρ fun k=>if k=true then g1 ρ else g2 ρ):=h
  obtain ⟨G1,st1,pk⟩:=sr.peek i
  refine ⟨G1,_,st1,?_⟩
  cases q:gt (frz i ρ) with
  | ok k=>
   rw [q] at h
   intro b' G' H' u r
   subst r
   obtain ⟨G2,u2,_⟩:=pk G' H' u
   cases b' with
   | true=>rw [if_pos rfl];exact ⟨G2,ρ,sr.ups u2,by simpa [R.out,dH] using h⟩
   | false=>rw [if_neg Bool.false_ne_true];exact ⟨G2,ρ,sr.ups u2,by simpa [R.out,dH] using h⟩
  | _=>rw [q] at h;exact h.elim
theorem Ej (j i:Nat) (hN:X.N.Nodup) (he:PF X e ga) (hi:X.N[i]?=some x:=by rfl) (hx:Loc X.env.scope x:=by first|exact Or.inl rfl|exact Or.inr rfl)
 (hs:swapsWithSole [.Name x p] e pos.line X.env=pure false:=by rfl) (hw:swappedStores [.Name x p] e X.env=pure none:=by rfl) (hf:X.fn x=true\/X.env.scope.names.lookup x=some .local:=by first|exact .inl rfl|exact .inr rfl):PSF X (.Assign [.Name x p] e pos) (C4 j i ga):=by
 walk_at "u"
 exact fun G₀ H₀ pins s σ H D I h=>by
  refine oh he (kE (i:=i) hN hi hx hf) hs hw rfl pins s σ H D I ?_
  obtain ⟨G,ρ,sr,h⟩:=h
  have h:lj X G₀ H₀ D ((dH (ga (frz j ρ))).out ρ fun d=>if fl 10 d=true then .nx (ρ.set i (some (.val d))) else .no):=h
  obtain ⟨G1,st1,pk⟩:=sr.peek j
  refine ⟨G1,_,st1,?_⟩
  cases q:ga (frz j ρ) with
  | ok d=>
   rw [q] at h
   intro v G' H' u r
   obtain ⟨G2,u2,tr⟩:=pk G' H' u
   have h:lj X G₀ H₀ D (if fl 10 d=true then .nx (ρ.set i (some (.val d))) else .no):=h
   by_cases hfl:fl 10 d=true
   ·rw [if_pos hfl] at h
    exact h _ G2 _ ((sr.ups u2).set (A0 tr 10 v d hfl r) i)
   ·rw [if_neg hfl] at h;exact h.elim
  | _=>rw [q] at h;exact h.elim
theorem DW (i:Nat) {tp:Pos} {ix:Expr} {gk:Ev->R D} (he:PF X e ga) (hk:PF X ix gk) (hi:X.N[i]?=some x:=by rfl) (hv:Vis X.env.scope x:=by first|exact Or.inl rfl|exact Or.inr (Or.inl rfl))
 (hd:(x==("__debug__":Str))=false:=by decide) (hcd:(x==("__classdict__":Str))=false:=by decide)
 (hs:swapsWithSole [.Subscript (.Name x p) ix tp] e pos.line X.env=pure false:=by rfl) (hw:swappedStores [.Subscript (.Name x p) ix tp] e X.env=pure none:=by rfl)
 (h1':(assignEach [.Subscript (.Name x p) ix tp] X.env).map (·.2)=[assign (.Subscript (.Name x p) ix tp) X.env]:=by rfl)
 (ha:∀ v,assign (.Subscript (.Name x p) ix tp) X.env v=(do
 let ov <- holding [v] (eval (.Name x p) X.env)
 let iv <- holding [v,ov] (eval ix X.env)
 standAt tp
 holding [v,ov,iv] (setItem ov iv v)
 release [v,ov,iv] []):=by intro _;rfl):PSF X (.Assign [.Subscript (.Name x p) ix tp] e pos) (CN i gk ga):=by
 walk_at "u"
 exact fun G₀ H₀ pins s σ H D I h=>by
  refine oh he (El (gT hi hv hd hcd) hk B5 ha) hs hw h1' pins s σ H D I ?_
  obtain ⟨G,ρ,sr,h⟩:=h
  have h:lj X G₀ H₀ D ((ownAt ρ i).out ρ fun ds=>(dH (ga (frz i ρ))).out ρ fun d=>(dH (gk (frz i ρ)>>=asI)).out ρ fun k=>match ixN ds.length k with
   | some n=>if fl 10 d=true then .nx (ρ.set i (some (.own (ds.set n d)))) else .no
   | none=>.no):=h
  obtain ⟨ds,e1,h⟩:=ownAt.ok h
  obtain ⟨l,vs,h1,h2,h3,h4,h5⟩:=sr.own i ds e1
  obtain ⟨G1,st1,pk⟩:=sr.peek i
  refine ⟨G1,_,st1,?_⟩
  cases q:ga (frz i ρ) with
  | ok d=>
   rw [q] at h
   intro v G' H' u r
   have h:lj X G₀ H₀ D ((dH (gk (frz i ρ)>>=asI)).out ρ fun k=>match ixN ds.length k with
    | some n=>if fl 10 d=true then .nx (ρ.set i (some (.own (ds.set n d)))) else .no
    | none=>.no):=h
   show Lr _ _ _ v σ H' _
   refine ⟨.ref l,h1,G',_,st1.up u,?_⟩
   cases q2:gk (frz i ρ) with
   | ok kd=>
    rw [q2] at h
    intro kv G'' H'' u' rk
    cases rk with
    | int k=>
     have h:lj X G₀ H₀ D (match ixN ds.length k with
      | some n=>if fl 10 d=true then .nx (ρ.set i (some (.own (ds.set n d)))) else .no
      | none=>.no):=h
     obtain ⟨G2,u2,tr⟩:=pk G'' H'' (u.trans u')
     cases q3:ixN ds.length k with
     | none=>rw [q3] at h;exact h.elim
     | some n=>
      rw [q3] at h
      have h:lj X G₀ H₀ D (if fl 10 d=true then .nx (ρ.set i (some (.own (ds.set n d)))) else .no):=h
      by_cases hz:fl 10 d=true
      ·rw [if_pos hz] at h
       refine ⟨l,vs,k,n,rfl,rfl,(u.trans u').hh _ _ h2,by rw [h5.length];exact q3,h _ G2 _ ?_⟩
       exact (sr.ups u2).mut e1 h1 (.set (A0 tr 10 v d hz (r.mono u'.gg)) n (h5.mono u2.gg))
      ·rw [if_neg hz] at h;exact h.elim
    | _=>exact h.elim
   | _=>rw [q2] at h;exact h.elim
  | _=>rw [q] at h;exact h.elim
theorem yH (hg:Gl X "list") (hm:X.mg "list"=none) (ha:PFA X [e] gl) (he:starEach [e] X.env=(false,eval e X.env)::starEach [] X.env:=by rfl):PFL X (.Call (.Name "list" p) [e] [] pos) (FA gl):=by
 walk_at "u"
 intro pins s σ H Q I hq
 refine nz tN hg hm PyProof.Rows.Boot.«list» ha (by decide) (by decide) he rfl pins s σ H Q I ?_
 obtain ⟨G,ρ,st,hq⟩:=hq
 have hq:(gl ρ>>=EV).post (yw X.K G H Q) (Exx X σ G H):=hq
 refine ⟨G,ρ,st,?_⟩
 cases q:gl ρ with
 | ok ds=>
  rw [q] at hq
  intro vs G' H' u r
  have hq:(EV ds).post (yw X.K G H Q) (Exx X σ G H):=hq
  unfold EV at hq
  split at hq
  ·obtain ⟨v,rfl,rv⟩:=r.one
   cases rv with
   | lst hs t=>exact ⟨_,_,rfl,.inl (.of (u.sub _ _ hs)),fun l hl=>hq l _ G' H' u hl t⟩
   | fls hs t=>exact ⟨_,_,rfl,.inl (hs.mono u.sub),fun l hl=>hq l _ G' H' u hl t⟩
   | tup hs t=>exact ⟨_,_,rfl,.inr (hs.mono u.sub),fun l hl=>hq l _ G' H' u hl t⟩
   | _=>exact hq.elim
  ·exact hq.elim
 | ex C=>rw [q] at hq;exact hq
 | no=>rw [q] at hq;exact hq
theorem zl {a b:Expr} (hg:Gl X "range") (hm:X.mg "range"=none) (ha:PFA X [a,b] gl) (hs:starEach [a,b] X.env=[(false,eval a X.env),(false,eval b X.env)]:=by rfl) (hs2:starEach [b] X.env=[(false,eval b X.env)]:=by rfl):PIF X tg (.Call (.Name "range" p) [a,b] [] pos) (aH jp gl):=by
 with_unfolding_all exact sO hg hm ha hs hs2
end
section
variable {X:Cx}
theorem xr {e:Expr} {ga:Ev->R D} {p2:Pos} (hm:X.mg "isinstance"=none) (ha:PF X e ga) (hm2:X.mg "list"=none) (hg2:Gl X "list":=by rfl) (hg:Gl X "isinstance":=by rfl) (hs1:starEach [e,.Name "list" p2] X.env=(false,eval e X.env)::starEach [.Name "list" p2] X.env:=by rfl):PF X (.Call (.Name "isinstance" p) [e,.Name "list" p2] [] pos) (aH (jA (·=="list")) ga):=by
 with_unfolding_all exact vO hm ha hm2 hg2 hg hs1
end
section
variable {X:Cx} {a b:Expr} {ga gb:Ev->R D} {elts:List Expr} {kt:Nat} {p pos tp kp:Pos}
theorem uq (hg:Gl X "enumerate") (hm:X.mg "enumerate"=none) (ha:PF X a ga) (hs:starEach [a] X.env=(false,eval a X.env)::starEach [] X.env:=by rfl):PIF X (.Tuple elts kt tp) (.Call (.Name "enumerate" p) [a] [] pos) (aH qG ga):=by
 walk_at "u"
 intro pins s σ H Rr I h
 obtain ⟨G,ρ,st,h⟩:=h
 have ta:BJ (tF X ga) K7 σ H (fun vs H1=>∃ v,vs=[v]/\∃ G1 d,Up G H G1 H1/\Rep X.K G1 v d/\Same G1 H1/\(qG d).post (Fin G1 H1 (fun G J items=>ItOk X.K G J items) Rr) (Exx X σ G1 H1)):=
  tG.intro st h fun d v G1 H1 u1 st1 r1 h1=>⟨v,rfl,G1,d,u1,r1,st1.sub,h1⟩
 refine Call_ (lg I hg hm PyProof.Rows.Boot.«enumerate» (PyProof.Rows.callWith_type1 (thn ((dh ha jG hs) pos pins s σ H _ I ta) fun us s1 ⟨vs,H1,I1,r1,q1⟩=>?_) hs rfl))
 obtain ⟨v,hv,G1,d,u1,rd,sub,h1⟩:∃ v,vs=[v]/\∃ G1 d,Up G H G1 H1/\Rep X.K G1 v d/\Same G1 H1/\(qG d).post (Fin G1 H1 (fun G J items=>ItOk X.K G J items) Rr) (Exx X σ G1 H1):=q1
 subst hv
 obtain ⟨u,rfl,rv⟩:=r1.one
 cases rd with
 | lst hq t=>
  cases rv
  have hq':SqL X.K G1 _ _:=.of hq
  obtain ⟨its,rvs,p,hz⟩:=I1.list (hq'.mono sub)
  exact call_enumerate_list p.isList fun h' he hi hsz hk=>wpAny_pyIter_enum he (pZ (c:=0) I1 (sh _ _) (SqL.lt' I1 (hq'.mono sub)) he hi hk (h1 _ G1 H1 (.refl sub) (ItOk.enum (fun G2 H2 s1 s2=>(hq'.mono s1).mono s2) t)))
 | fls hq t=>
  cases rv
  obtain ⟨its,rvs,p,hz⟩:=I1.list (hq.mono sub)
  exact call_enumerate_list p.isList fun h' he hi hsz hk=>wpAny_pyIter_enum he (pZ (c:=0) I1 (sh _ _) (SqL.lt' I1 (hq.mono sub)) he hi hk (h1 _ G1 H1 (.refl sub) (ItOk.enum (fun G2 H2 s1 s2=>(hq.mono s1).mono s2) t)))
 | tup hq t=>
  cases rv
  obtain ⟨its,rvs,⟨⟨cls,dd,data,sl⟩,ho,hc,n,hd⟩,hz⟩:=I1.tuple (hq.mono sub)
  simp only at hc hd
  subst hc hd
  exact Dh ho fun h' he hi hsz hk=>wpAny_pyIter_enum he (pZ (c:=0) I1 (AB _ _) (SqT.lt' I1 (hq.mono sub)) he ⟨_,hi,rfl,rfl⟩ hk (h1 _ G1 H1 (.refl sub) (ItOk.enum (fun G2 H2 s1 s2=>(hq.mono s1).mono s2) t)))
 | _=>exact h1.elim
end
section
variable {X:Cx}
theorem K6 {e:Expr} (hc:X.calm=true) (hg:Gl X "sum") (hm:X.mg "sum"=none) (ha:PFA X [e] gl) (he:starEach [e] X.env=(false,eval e X.env)::starEach [] X.env:=by rfl):PF X (.Call (.Name "sum" p) [e] [] pos) (gOf GH gl):=by
 with_unfolding_all exact kz (A4 hc) (EG _) hg hm PyProof.Rows.Boot.«sum» ha (by decide) (by decide) he rfl
end
section
variable {X:Cx} {a b:Expr} {gl:Ev->R (List D)} {elts:List Expr} {kt:Nat} {p pos tp:Pos}
theorem Jp (hg:Gl X "zip") (hm:X.mg "zip"=none) (ha:PFA X [a,b] gl) (hs:starEach [a,b] X.env=(false,eval a X.env)::starEach [b] X.env:=by rfl) (hs2:(backTo pos (starEach [b] X.env)).any (·.1)=false:=by rfl):PIF X (.Tuple elts kt tp) (.Call (.Name "zip" p) [a,b] [] pos) (aH Fq gl):=by
 walk_at "u"
 intro pins s σ H Rr I h
 obtain ⟨G,ρ,st,h⟩:=h
 have h:(gl ρ>>=Fq).post (Fin G H (fun G J items=>ItOk X.K G J items) Rr) (Exx X σ G H):=h
 have ta:tAF X gl σ H (fun vs H1=>∃ G1 ds,Up G H G1 H1/\Reps X.K G1 vs ds/\Same G1 H1/\(Fq ds).post (Fin G1 H1 (fun G J items=>ItOk X.K G J items) Rr) (Exx X σ G1 H1)):=by
  refine ⟨G,ρ,st,?_⟩
  cases e:gl ρ with
  | ok ds=>
   rw [e] at h
   intro vs G1 H1 u1 r1
   refine ⟨G1,ds,u1,r1,u1.sub,?_⟩
   have h:(Fq ds).post (Fin G H (fun G J items=>ItOk X.K G J items) Rr) (Exx X σ G H):=h
   exact h.mono (fun items q J G2 H2 u2 r2=>q J G2 H2 (u1.trans u2) r2) fun C q=>q.up u1
  | ex C=>rw [e] at h;exact h
  | no=>rw [e] at h;exact h
 refine Call_ (lg I hg hm PyProof.Rows.Boot.«zip» (PyProof.Rows.callWith_type1 (thn (ha pos pins s σ H _ I ta) fun us s1 ⟨vs,H1,I1,r1,q1⟩=>?_) hs hs2))
 obtain ⟨G1,ds,u1,rd,sub,h1⟩:=q1
 unfold Fq at h1
 split at h1
 ·rename_i f1 xs f2 ys
  cases rd with
  | cons rx t=>
   cases t with
   | cons ry t2=>
    cases t2
    obtain ⟨l1,ws1,rfl,sq1,rr1⟩:=rx.lstSq
    obtain ⟨l2,ws2,rfl,sq2,rr2⟩:=ry.lstSq
    cases r1 with
    | cons v1 t1=>
     cases t1 with
     | cons v2 t3=>
      cases t3
      cases v1
      cases v2
      obtain ⟨its1,rv1,p1,hz1⟩:=I1.list (sq1.mono sub)
      obtain ⟨its2,rv2,p2,hz2⟩:=I1.list (sq2.mono sub)
      have hl1:l1<s1.heap.objs.size:=SqL.lt' I1 (sq1.mono sub)
      have hl2:l2<s1.heap.objs.size:=SqL.lt' I1 (sq2.mono sub)
      refine call_zip_2 p1.isList p2.isList fun h' z1 zTI zTO zi1 zi2 zsz zk=>wpAny_pyIter_zip z1 ?_
      refine ⟨_,_,_,_,H1,rfl,I1.kept (t':=s1.toks) zk,CS (zipApart_new hl1 hl2),⟨z1,zTI,⟨_,_,zTO⟩,zi1,zi2⟩,fun b hb=>?_,h1 _ G1 H1 (.refl sub) (ItOk.zip (fun G2 H2 s1 s2=>(sq1.mono s1).mono s2) (fun G2 H2 s1 s2=>(sq2.mono s1).mono s2) rr1 rr2)⟩
      have hge:s1.heap.objs.size<=b:=by
       simp only [List.mem_cons,List.mem_nil_iff,or_false] at hb
       rcases hb with rfl|rfl|rfl|rfl|rfl <;> omega
      exact I1.fpOk hge (I1.hok.fresh hge)
 ·exact h1.elim
end
section
theorem Fun.okM {w:World} {K:PySem.W.Frag} {mg:Str->Option Value} {base:Heap} {N:List Str} {F:MF} (Fn:Fun K x qual st f fd) (S:FnScope N ps (ao st)) {g:Ev->O} (ok:sQ C g N.length F)
 (hbody:∀ (cdv:Value) (A:Around) (outer:List Env) (s:Shared) (H:Hp) (E:XK),Room k (A.deeper (envOfC qual (ao st) s.heap.objs.size f cdv))->wK (lC (CXo P w) P w K mg base N qual (ao st) f cdv A outer s H E) (cI st) g):FnM P w K mg base (k+1) f fd ps C F:=by
 walk_at "u"
 obtain ⟨oc,od,kV,doc,pm,an,cdv,ct,osl,rfl,lk,hcd⟩:=Fn.ex
 refine Gy lk hcd S (fun vs H Q E h=>h.1) fun A outer s H vs Q E hr hsp=>?_
 obtain ⟨hl,G,p,us,ds,fs,ow,rfl,r,sub,og,ob,h⟩:=hsp
 have o:=ok p fs ds
 have rdo:StR K G H G H (jf N (.ref p::us)) (eZ false C p fs N.length ds):=ua sub (.refl sub) r (ob.ro H)
 cases q:F fs ds with
 | no=>rw [q] at h;exact h.elim
 | rd d=>
  rw [q] at h o
  refine ⟨_,hbody cdv A outer s H E hr G H,G,_,rdo,?_⟩
  have o:g (eZ false C p fs N.length ds)=.rt d:=o
  rw [o]
  exact fun v G' H' u rv=>h v G' H' u rv
 | ex C'=>
  rw [q] at h o
  obtain ⟨ρ',o⟩:=o
  refine ⟨_,hbody cdv A outer s H E hr G H,G,_,rdo,?_⟩
  rw [o]
  exact fun e s' fl=>qI fl h
 | ok d fs'=>
  rw [q] at h o
  obtain ⟨ρ',e0,o⟩:=o
  obtain ⟨s0,u0⟩:=Hm sub og
  refine ⟨_,hbody cdv A outer s H E hr G (hid H ow),G,eZ true C p fs N.length ds,ua s0 u0 r (ob.hid true),?_⟩
  have fin:∀ σ G' H',StR K G (hid H ow) G' H' σ ρ'->∃ ow',ObjAt K (hid H ow) G' H' ow' 0 true C p fs':=fun σ G' H' sr=>by
   obtain ⟨ow',_,o2⟩:=sr.ob
   exact ⟨ow',(o2 0 true C p fs' e0).2⟩
  rcases o with o|⟨o,rfl⟩
  ·rw [o]
   intro v σ G' H' sr rv
   obtain ⟨ow',z⟩:=fin σ G' H' sr
   exact h v G' H' ow' sr.up z rv
  ·rw [o]
   intro σ G' H' sr
   obtain ⟨ow',z⟩:=fin σ G' H' sr
   exact h .non G' H' ow' sr.up z .non
end
section
variable {X:Cx} {st:Stmt} {cJ:List Stmt} {g1:Ev->O} {gs:Ev->O} {α:Type} {g2:α->Ev->O} {e:Expr} {es:List Expr} {gl gl':Ev->R (List D)} {cn:Str} {k n:Nat} {C:Addr} {F:MF} {p pos:Pos}
theorem Bi (h:wK X cJ gs):EN X cJ (Gk gs):=by
 walk_at "u"
 exact fun G₀ H₀ pins s σ H D I ⟨G,ρ,sr,q⟩=>h G₀ H₀ pins s σ H D I ⟨G,ρ,sr,q ()⟩
end
section
theorem Fun.okA {w:World} {K:PySem.W.Frag} {mg:Str->Option Value} {base:Heap} {N:List Str} {α:Type} (F:Fun K x qual st f fd) (S:FnScope N ps (ao st)) {g:α->Ev->O}
 (hg:∀ ds,ds.length=ps.length->gr ds=.no\/∀ q,aq (g q (ar N.length ds))=gr ds)
 (hbody:∀ (cdv:Value) (A:Around) (outer:List Env) (s:Shared) (H:Hp) (E:XK),Room k (A.deeper (envOfC qual (ao st) s.heap.objs.size f cdv))->EN (lC (CXo P w) P w K mg base N qual (ao st) f cdv A outer s H E) (cI st) g):FnF P w K mg base (k+1) f fd ps gr:=by
 walk_at "u"
 obtain ⟨oc,od,kV,doc,pm,an,cdv,ct,osl,rfl,lk,hcd⟩:=F.ex
 refine Gy lk hcd S (fun vs H Q E h=>h.1) fun A outer s H vs Q E hr hsp=>?_
 obtain ⟨hl,G,ds,sub,r,h⟩:=hsp
 refine ⟨_,hbody cdv A outer s H E hr G H,G,ar N.length ds,xC sub r,fun q0=>?_⟩
 rcases hg ds (by rw [<- r.length];exact hl) with z|z
 ·rw [z] at h;exact h.elim
 ·rw [<- z q0] at h
  cases q:g q0 (ar N.length ds) with
  | nx ρ=>rw [q] at h;exact fun σ G' H' sr=>h .non G' H' sr.up .non
  | rt d=>rw [q] at h;exact fun v G' H' u rv=>h v G' H' u rv
  | re d ρ=>rw [q] at h;exact fun v σ G' H' sr rv=>h v G' H' sr.up rv
  | bk ρ=>rw [q] at h;exact h.elim
  | ct ρ=>rw [q] at h;exact h.elim
  | ex C ρ=>rw [q] at h;exact fun e s' fl=>qI fl h
  | no=>rw [q] at h;exact h.elim
end
section
variable {X:Cx} {es:List Expr} {gl:Ev->R (List D)} {x y:Str} {i k n:Nat} {C:Addr} {F:MF} {p1 py pos:Pos}
theorem pB (i:Nat) (c:CalleeM X.prog X.w X.K X.mg X.base C x k n F) (hr:Room k X.A) (ha:PFA X es gl) (hi:X.N[i]?=some y:=by rfl) (hv:Vis X.env.scope y:=by first|exact Or.inl rfl|exact Or.inr (Or.inl rfl)|exact Or.inr (Or.inr rfl))
 (hd:(y==("__debug__":Str))=false:=by decide) (hcd:(y==("__classdict__":Str))=false:=by decide) (hg:Gl X x:=by rfl) (hdb:(x==("__debug__":Str))=false:=by decide)
 (hst:starEach (.Name y py::es) X.env=(false,eval (.Name y py) X.env)::starEach es X.env:=by rfl) (hpl:(backTo pos (starEach es X.env)).any (·.1)=false:=by rfl):PFX X (.Call (.Name x p1) (.Name y py::es) [] pos) (jW C i n F gl):=by
 walk_at "u"
 exact fun G₀ H₀ pins s σ H Q I h=>by
  obtain ⟨f,fd,ps,M,hm,hk,hb,hl⟩:=c.ex
  obtain ⟨G,ρ,sr,h⟩:=h
  obtain ⟨mm,p,fs,e1,h⟩:=FR h
  obtain ⟨h1,_⟩:=sr.e.obs i mm C p fs e1
  have v:PE X (.Name y py) (JL i):=gT hi hv hd hcd
  refine wpAny_Call_Name_kw (rj I hg hm ?_ hdb)
  have t:BJ (JL i) (tAF X gl) σ H (fun vs H1=>∃ ws G1 ds,vs=.ref p::ws/\StR X.K G₀ H₀ G1 H1 σ ρ/\Reps X.K G1 ws ds/\ds.length=n/\D2 X G₀ H₀ σ Q ((F fs ds).outX mm C p i ρ)):=
   ⟨_,h1,HK sr h fun vs G1 H1 ds s1 r hz h=>⟨vs,G1,ds,rfl,s1,r,hz,h⟩⟩
  refine PySem.W.callWith_K (h₀:=X.base) I.ok.mod.kin hk (thn (dh v ha hst pos pins s σ H _ I t) fun us s2 q=>⟨?_,?_⟩) hst hpl
  ·obtain ⟨vs,H1,I1,r,_⟩:=q;exact I1.kIn
  obtain ⟨vs,H1,I1,r,ws,G1,ds,rfl,s2,rp,hz,h2⟩:=q
  cases r with
  | cons ru r=>
   obtain rfl:=ru
   exact xM M hr hb hl I1 r rp hz s2 e1 h2
end
section
theorem pJ {e:Expr} {g:Ev->O} (h:PFX X e g) (hs:swapsWith e none pos.line X.env=pure false:=by rfl):PSF X (.Expr e pos) (eV g):=by
 walk_at "u"
 exact fun G₀ H₀ pins s σ H D I ⟨G,ρ,sr,q⟩=>by
  refine oQ (h G₀ H₀) hs pins s σ H D I ⟨G,ρ,sr,?_⟩
  unfold eV at q
  cases e:g ρ with
  | re d ρ'=>rw [e] at q;exact fun v G' H' s' r=>q σ G' H' s'
  | ex C ρ'=>rw [e] at q;exact q
  | _=>rw [e] at q;exact q.elim
end
section
variable {X:Cx} {e:Expr} {ge ga:Ev->R D} {x:Str} {p pos:Pos}
theorem C8 (i:Nat) (hu:X.A.units+64<cLine) (he:PF X e ge) (hi:X.N[i]?=some x:=by rfl) (hv:Vis X.env.scope x:=by first|exact Or.inl rfl|exact Or.inr (Or.inl rfl)|exact Or.inr (Or.inr rfl))
 (hd:(x==("__debug__":Str))=false:=by decide) (hcd:(x==("__classdict__":Str))=false:=by decide) (hm:behindInMarks .In (.Name x p)=false:=by rfl):PB X (.Compare e [.In] [.Name x p] pos) (rA false i ge):=by
 walk_at "u"
 exact fun pins s σ H Q I h=>
  vm (Jc hu) he (gT hi hv hd hcd) hm pins s σ H Q I (wZ h)
theorem IE (i:Nat) (hu:X.A.units+64<cLine) (he:PF X e ge) (hi:X.N[i]?=some x:=by rfl) (hv:Vis X.env.scope x:=by first|exact Or.inl rfl|exact Or.inr (Or.inl rfl)|exact Or.inr (Or.inr rfl))
 (hd:(x==("__debug__":Str))=false:=by decide) (hcd:(x==("__classdict__":Str))=false:=by decide) (hm:behindInMarks .NotIn (.Name x p)=false:=by rfl):PB X (.Compare e [.NotIn] [.Name x p] pos) (rA true i ge):=by
 walk_at "u"
 exact fun pins s σ H Q I h=>
  vm (Ge hu) he (gT hi hv hd hcd) hm pins s σ H Q I (wZ h)
theorem sU (i:Nat) (hu:X.A.units+64<cLine) (he:PF X e ge) (hi:X.N[i]?=some x:=by rfl) (hv:Vis X.env.scope x:=by first|exact Or.inl rfl|exact Or.inr (Or.inl rfl)|exact Or.inr (Or.inr rfl))
 (hd:(x==("__debug__":Str))=false:=by decide) (hcd:(x==("__classdict__":Str))=false:=by decide) (hs:va e:=by intro _ _;rfl):PF X (.Subscript (.Name x p) e pos) (ij i ge):=by
 walk_at "u"
 exact fun pins s σ H Q I h=>by
  refine Jx (GY hu) (gT hi hv hd hcd) he hs pins s σ H Q I ?_
  obtain ⟨G,ρ,st,h⟩:=h
  have h:(tz ρ i>>=fun kv=>ge ρ>>=fun d=>ofO ((ue d).bind fun n=>kv.lookup n)).post (Fin G H (Rep X.K) Q) (Exx X σ G H):=h
  cases q:tz ρ i with
  | ok kv=>
   rw [q] at h
   obtain ⟨c,o,xs,ks,ds,g1,g2,g3,g4,rfl⟩:=st.dct q
   refine ⟨.ref c,g1,tG.intro st h fun d v G1 H1 u1 st1 r1 h1=>?_⟩
   obtain ⟨w,e2,h1⟩:=ofO.ok h1
   cases e1:ue d with
   | none=>rw [e1] at e2;cases e2
   | some n=>
    rw [e1] at e2
    have e2:(ks.zip ds).lookup n=some w:=e2
    obtain ⟨q,a,b,rfl,rfl,hq⟩:=lW e1 r1
    rcases g3.look g4 with ⟨y1,_⟩|⟨d',v',y1,y2,y3⟩
    ·rw [y1] at e2;cases e2
    ·rw [y1] at e2
     cases e2
     exact ⟨c,o,xs,q,[a,b],v',rfl,rfl,u1.hh _ _ g2,fun z hz=>(g3.inH st.sub z hz).mono u1.hh,hq.mono st1.sub,y2,h1 v' G1 H1 (.refl st1.sub) (y3.mono u1.gg)⟩
  | ex C=>exact (zB q).elim
  | no=>rw [q] at h;exact h.elim
end
section
variable {X:Cx} {e ix:Expr} {ge ga gk:Ev->R D} {x:Str} {p tp pos:Pos}
theorem GM (i:Nat) (hu:X.A.units+64<cLine) (he:PF X e ga) (hk:PF X ix gk) (hi:X.N[i]?=some x:=by rfl) (hv:Vis X.env.scope x:=by first|exact Or.inl rfl|exact Or.inr (Or.inl rfl))
 (hd:(x==("__debug__":Str))=false:=by decide) (hcd:(x==("__classdict__":Str))=false:=by decide)
 (hs:swapsWithSole [.Subscript (.Name x p) ix tp] e pos.line X.env=pure false:=by rfl) (hw:swappedStores [.Subscript (.Name x p) ix tp] e X.env=pure none:=by rfl)
 (h1':(assignEach [.Subscript (.Name x p) ix tp] X.env).map (·.2)=[assign (.Subscript (.Name x p) ix tp) X.env]:=by rfl)
 (ha:∀ v,assign (.Subscript (.Name x p) ix tp) X.env v=(do
 let ov <- holding [v] (eval (.Name x p) X.env)
 let iv <- holding [v,ov] (eval ix X.env)
 standAt tp
 holding [v,ov,iv] (setItem ov iv v)
 release [v,ov,iv] []):=by intro _;rfl):PSF X (.Assign [.Subscript (.Name x p) ix tp] e pos) (Cj i gk ga):=by
 walk_at "u"
 exact fun G₀ H₀ pins s σ H D I ⟨G,ρ,sr,h⟩=>by
  refine oh he (El (gT hi hv hd hcd) hk (EW hu) ha) hs hw h1' pins s σ H D I ⟨G,ρ,sr.e,?_⟩
  obtain ⟨pp,fs,e1,h⟩:=Fp h
  obtain ⟨hσ,_⟩:=sr.e.obs i true DC pp fs e1
  cases q1:ga ρ with
  | ok d=>
   rw [q1] at h
   intro v G1 H1 u1 r1
   show Lr _ _ _ v σ H1 _
   refine ⟨.ref pp,hσ,G1,ρ,(sr.ups u1).e,?_⟩
   cases q2:gk ρ with
   | ok k=>
    rw [q2] at h
    intro kv G2 H2 u2 r2
    have sr2:=(sr.ups u1).ups u2
    obtain ⟨ow,o1,o2⟩:=sr2.ob
    obtain ⟨ob,xs,ks,ds,g1,g2,g3,g4,g5,g6,g7⟩:=(o2 i true DC pp fs e1).2.dco
    have h:lj X G₀ H₀ D (match ue k with
     | some n=>if fs.length<900 then .nx (ρ.set i (some (.obj true DC pp (ug n (.val d) fs)))) else .no
     | none=>.no):=h
    cases q3:ue k with
    | none=>rw [q3] at h;exact h.elim
    | some n=>
     rw [q3] at h
     have h:lj X G₀ H₀ D (if fs.length<900 then .nx (ρ.set i (some (.obj true DC pp (ug n (.val d) fs)))) else .no):=h
     by_cases hz:fs.length<900
     ·rw [if_pos hz] at h
      obtain ⟨q,a,b,rfl,rfl,hq⟩:=lW q3 r2
      have xl:xs.length=fs.length:=by
       have l1:=g5.length
       have l2:=g6.length
       rw [List.length_map] at l2
       rw [g7,List.length_zip,List.length_map];omega
      have lb:900<sizeLine:=by decide
      refine ⟨pp,ob,xs,q,[a,b],rfl,rfl,g1,g5.inH sr2.e.sub,hq.mono sr2.e.sub,by omega,fun nd o'=>h σ G2 _ ?_⟩
      obtain ⟨ks',ds',k1,k2,k3⟩:=g5.put g6 nd hq (r1.mono u2.gg)
      have np:∀ c o,H₀ c=some o->c≠pp:=fun c o z=>aN z (g3 rfl)
      refine sr2.objTo e1 o1 o2 (ow2:=ow) (fun c o z nt=>?_) (fun c o z=>?_) (fun c o z=>?_) (fun _ _ _ _ _ z _=>z) (.inr ⟨rfl,o',_,ks',ds',bc,g2,g3,g4,k1,k2,by rw [g7];exact k3⟩)
      ·rw [aU (fun y=>nt 0 (by rw [y];exact g4))];exact z
      ·rw [aU (np c o z)];exact sr2.up.hh c o z
      ·rw [aU (aN z g2)];exact sr2.e.sub c o z
     ·rw [if_neg hz] at h;exact h.elim
   | _=>rw [q2] at h;exact h.elim
  | _=>rw [q1] at h;exact h.elim
end
section
variable {X:Cx} {cJ:List Stmt} {α:Type} {g2:α->Ev->O} {x y:Str} {e:Expr} {ga:Ev->R D} {p py pos pos':Pos}
theorem FF (i:Nat) (hN:X.N.Nodup) (h2:EN X cJ g2) (hi:X.N[i]?=some y:=by rfl) (hx:Loc X.env.scope y:=by first|exact Or.inl rfl|exact Or.inr rfl)
 (hw:swappedStores [.Name y py] (.Dict [] [] pos) X.env=pure none:=by rfl) (hf:X.fn y=true\/X.env.scope.names.lookup y=some .local:=by first|exact .inl rfl|exact .inr rfl)
 (hs:swapsWithSole [.Name y py] (.Dict [] [] pos) pos'.line X.env=pure false:=by rfl):EN X (.Assign [.Name y py] (.Dict [] [] pos) pos'::cJ) (Em i g2):=by
 walk_at "u"
 exact fun G₀ H₀ pins s σ H D I ⟨G,ρ,sr,h⟩=>by
  refine qz (oh EK (kE (i:=i) hN hi hx hf) hs hw rfl) (h2 G₀ H₀) pins s σ H D I fun q o hq=>?_
  obtain ⟨u,ob⟩:=Bo (o:=o) sr.e.sub hq (.nil:KeysAt X.K G [] []) (.nil:Reps X.K G [] [])
  exact ⟨G,_,sr.setObj u ob i,fun q2=>h (q,q2)⟩
theorem BL [Inhabited α] (i:Nat) (hN:X.N.Nodup) (hg:Gl X "dict") (hm:X.mg "dict"=none) (he:PF X e ga) (h2:EN X cJ g2) (hi:X.N[i]?=some y:=by rfl) (hx:Loc X.env.scope y:=by first|exact Or.inl rfl|exact Or.inr rfl)
 (hse:starEach [e] X.env=(false,eval e X.env)::starEach [] X.env:=by rfl)
 (hw:swappedStores [.Name y py] (.Call (.Name "dict" p) [e] [] pos) X.env=pure none:=by rfl) (hf:X.fn y=true\/X.env.scope.names.lookup y=some .local:=by first|exact .inl rfl|exact .inr rfl)
 (hs:swapsWithSole [.Name y py] (.Call (.Name "dict" p) [e] [] pos) pos'.line X.env=pure false:=by rfl):EN X (.Assign [.Name y py] (.Call (.Name "dict" p) [e] [] pos) pos'::cJ) (zY i ga g2):=by
 walk_at "u"
 exact fun G₀ H₀ pins s σ H D I ⟨G,ρ,sr,h⟩=>by
  refine qz (oh (nz rV hg hm PyProof.Rows.Boot.«dict» (dh he jG hse) (by decide) (by decide) hse rfl) (kE (i:=i) hN hi hx hf) hs hw rfl) (h2 G₀ H₀) pins s σ H D I ⟨G,ρ,sr.e,?_⟩
  have h:∀ q:Addr×α,lj X G₀ H₀ D ((dH (ga ρ)).out ρ fun d=>match d with
   | .dct (k::ks) ds=>g2 q.2 (ρ.set i (some (.obj true DC q.1 ((k::ks).zip (ds.map Fd.val)))))
   | _=>.no):=h
  cases q1:ga ρ with
  | ok d=>
   rw [q1] at h
   intro v G1 H1 u1 r1
   cases r1 with
   | @dct c o xs ks ds hc hk hr=>
    have sr1:=sr.ups u1
    cases ks with
    | nil=>exact (h (0,default)).elim
    | cons k ks=>
     refine ⟨c,o,xs,rfl,u1.sub _ _ hc,hk.inH u1.sub,hk.twos,fun z=>by have:=hk.length;rw [z] at this;simp at this,fun q o' hq=>?_⟩
     obtain ⟨u,ob⟩:=Bo (o:=o') u1.sub hq hk hr
     exact ⟨G1,_,sr1.setObj u ob i,fun q2=>h (q,q2)⟩
   | _=>exact (h (0,default)).elim
  | _=>rw [q1] at h;exact (h (0,default)).elim
theorem Ef (i:Nat) (hi:X.N[i]?=some x:=by rfl) (hv:Vis X.env.scope x:=by first|exact Or.inl rfl|exact Or.inr (Or.inl rfl)|exact Or.inr (Or.inr rfl))
 (hd:(x==("__debug__":Str))=false:=by decide) (hcd:(x==("__classdict__":Str))=false:=by decide):PSF X (.Return (some (.Name x p)) pos) (tB i):=by
 walk_at "u"
 exact fun G₀ H₀ pins s σ H D I ⟨G,ρ,sr,h⟩=>by
  unfold tB at h
  split at h
  ·rename_i C q fs e1
   split at h
   ·rename_i z
    subst z
    obtain ⟨ow,_,o2⟩:=sr.ob
    obtain ⟨hσ,ob⟩:=o2 i true DC q fs e1
    obtain ⟨o,xs,ks,ds,g1,g2,g3,g4,g5,g6,g7⟩:=ob.dco
    rw [g7,uI] at h
    have l1:=g5.length
    have l2:=g6.length
    rw [List.length_map] at l2
    have e2:(ks.zip ds).map (·.1)=ks:=List.map_fst_zip (by omega)
    have e3:(ks.zip ds).map (·.2)=ds:=List.map_snd_zip (by omega)
    have h:lj X G₀ H₀ D (.rt (.dct ((ks.zip ds).map (·.1)) ((ks.zip ds).map (·.2)))):=h
    rw [e2,e3] at h
    have into:Same G (upd G q (DctO q o xs)):=.into g2
    refine Ei (gT hi hv hd hcd) pins s σ H D I ⟨_,hσ,h (.ref q) (upd G q (DctO q o xs)) H ⟨fun a u y=>?_,sr.up.gg.trans into,sr.up.hh,fun a u y=>?_⟩ (.dct bc (g5.mono into) (g6.mono into))⟩
    ·by_cases ea:a=q
     ·subst ea;rw [bc] at y;rw [<- y];exact g1
     ·rw [aU ea] at y;exact sr.e.sub a u y
    ·by_cases ea:a=q
     ·subst ea;exact .inr (g3 rfl)
     ·rw [aU ea] at y;exact sr.up.fr a u y
   ·exact h.elim
  ·exact h.elim
theorem KI {k v:Expr} {gk gv:Ev->R D} (hu:X.A.units+64<cLine) (hk:PF X k gk) (hv:PF X v gv):PF X (.Dict [some k] [v] pos) (gD1 gk gv):=by
 walk_at "u"
 exact fun pins s σ H Q I ⟨G,ρ,st,h⟩=>by
  refine FZ (by omega) hk hv pins s σ H Q I fun q o hq=>?_
  have u0:Up G H G (upd H q (DctO q o [])):=⟨fun a u y=>by rw [aU (aN y (st.sub.free hq))];exact st.sub a u y,.refl _,.into hq,fun _ _ y=>.inl y⟩
  have h:(gk ρ>>=fun k=>gv ρ>>=fun v=>ofO (d1F k v)).post (Fin G H (Rep X.K) Q) (Exx X σ G H):=h
  have st0:=st.up u0
  refine ⟨G,ρ,st0,?_⟩
  cases q1:gk ρ with
  | ok kd=>
   rw [q1] at h
   intro kv G1 H1 u1 r1
   refine ⟨G1,ρ,st0.up u1,?_⟩
   have h:(gv ρ>>=fun v=>ofO (d1F kd v)).post (Fin G H (Rep X.K) Q) (Exx X σ G H):=h
   cases q2:gv ρ with
   | ok vd=>
    rw [q2] at h
    intro vv G2 H2 u2 r2
    obtain ⟨w,e1,h⟩:=ofO.ok (show (ofO (d1F kd vd)).post (Fin G H (Rep X.K) Q) (Exx X σ G H) from h)
    unfold d1F at e1
    cases e2:ue kd with
    | none=>rw [e2] at e1;cases e1
    | some n=>
     rw [e2] at e1
     cases e1
     obtain ⟨c,a,b,rfl,rfl,hc⟩:=lW e2 r1
     have u:=u1.trans u2
     have gq:G2 q=none:=by
      cases z:G2 q with
      | none=>rfl
      | some o'=>
       rcases u.fr q o' z with y|y
       ·rw [st.sub.free hq] at y;cases y
       ·rw [bc] at y;cases y
     refine ⟨u.hh _ _ bc,c,[a,b],rfl,(hc.mono u2.gg).mono u2.sub,fun o'=>h (.ref q) (upd G2 q (DctO q o' [([a,b],c,vv)])) _ ⟨u2.sub.both,u.gg.trans (.into gq),fun x o'' y=>?_,fun x o'' y=>?_⟩ (.dct bc (.cons ((hc.mono u2.gg).mono (.into gq)) .nil) (.cons (r2.mono (.into gq)) .nil))⟩
     ·have nx:=aN y hq
      rw [aU nx]
      exact u.hh x o'' (by rw [aU nx];exact y)
     ·by_cases ex:x=q
      ·subst ex;exact .inr hq
      ·rw [aU ex] at y
       rcases u.fr x o'' y with z|z
       ·exact .inl z
       ·rw [aU ex] at z;exact .inr z
   | ex C=>rw [q2] at h;exact Exx.up (u0.trans u1) h
   | no=>rw [q2] at h;exact h.elim
  | ex C=>rw [q1] at h;exact Exx.up u0 h
  | no=>rw [q1] at h;exact h.elim
theorem Bc {tp ap:Pos} (he:PF X e ga) (hbase:attributeBase e "items" X.env (eval e X.env)=eval e X.env:=by rfl) (hline:(ap.endLine==pos.line)=true:=by rfl):PIF X (.Tuple elts kt tp) (.Call (.Attribute e "items" ap) [] [] pos) (fun ρ=>ga ρ>>=zv):=by
 walk_at "u"
 exact fun pins s σ H Rr I ⟨G,ρ,st,h⟩=>by
  refine Dn he hbase hline pins s σ H Rr I (tG.intro st h fun d v G1 H1 u1 st1 r1 h1=>?_)
  cases r1 with
  | dct hh k r=>exact ⟨_,_,_,rfl,st1.sub _ _ hh,h1 _ G1 H1 (.refl st1.sub) (.dct hh k r)⟩
  | _=>exact h1.elim
end
section
theorem DY {a:Expr} {ga:Ev->R D} {fn:Str} {fp kp:Pos} (hc:X.calm=true) (hg:Gl X "min") (hm:X.mg "min"=none) (c:Callee X.prog X.w X.K X.mg X.base fn k 1 g) (hr:Room k X.A.in1) (ha:PF X a ga) (hgf:Gl X fn:=by rfl) (hdb:(fn==("__debug__":Str))=false:=by decide)
 (hs:starEach [a] X.env=(false,eval a X.env)::starEach [] X.env:=by rfl)
 (hall:(backToKw pos (keywordEach [⟨some "key",.Name fn fp,kp⟩] X.env)).all (·.1.isSome)=true:=by rfl) (hks:(backToKw pos (keywordEach [⟨some "key",.Name fn fp,kp⟩] X.env)).filterMap (·.1)=[("key":Str)]:=by rfl)
 (hpl:((backTo pos (starEach [a] X.env)).any (·.1) || (backToKw pos (keywordEach [⟨some "key",.Name fn fp,kp⟩] X.env)).any (·.1.isNone))=false:=by rfl):PF X (.Call (.Name "min" p) [a] [⟨some "key",.Name fn fp,kp⟩] pos) (vt ga g):=by
 walk_at "u"
 exact fun pins s σ H Q I ⟨G,ρ,st,h⟩=>by
  obtain ⟨f,fd,ps,F,hmf,hkp,hb,hl1⟩:=c.ex
  have ta:BJ (tF X ga) K7 σ H (fun vs H1=>∃ v,vs=[v]/\∃ G1 d,Up G H G1 H1/\Rep X.K G1 v d/\(match d with|.lst _ xs=>qB (fun d=>g [d]) xs|_=>.no:R D).post (Fin G1 H1 (Rep X.K) Q) (Exx X σ G1 H1)):=
   tG.intro st h fun d v G1 H1 u1 st1 r1 h1=>⟨v,rfl,G1,d,u1,r1,h1⟩
  refine wpAny_Call_Name_kw (lg I hg hm PyProof.Rows.Boot.«min» ?_ (by decide) (by decide))
  refine PySem.W.callWith_of (P:=fun _=>True) hpl (fun h _=>by first|exact ⟨_,.inl rfl,PySem.W.Looks.of_pure rfl⟩|exact ⟨_,.inr (.inl rfl),PySem.W.Looks.of_pure rfl⟩|exact ⟨_,.inr (.inr rfl),PySem.W.Looks.of_pure rfl⟩) (evalArgs_kw2 hall (thn ((dh ha jG hs) pos pins s σ H _ I ta) fun us s1 ⟨vs,H1,I1,r1,q1⟩=>?_) hs)
  obtain ⟨v,hv,G1,d,u1,rd,h1⟩:∃ v,vs=[v]/\∃ G1 d,Up G H G1 H1/\Rep X.K G1 v d/\(match d with|.lst _ xs=>qB (fun d=>g [d]) xs|_=>.no:R D).post (Fin G1 H1 (Rep X.K) Q) (Exx X σ G1 H1):=q1
  subst hv
  obtain ⟨u,rfl,rv⟩:=r1.one
  show wpAny _ _ (evalAll ((do let v <- eval (.Name fn fp) X.env;standAt pos;pure v)::(backToKw pos (keywordEach [] X.env)).map (·.2))) _ _ s1
  refine wpAny_evalAll_cons (wpAny_bind (thn (vR (v:=.ref f) hgf hmf rfl hdb pins s1 σ H1 (fun w H2=>w=.ref f/\H2=H1) I1 ⟨rfl,rfl⟩) fun fv s2 ⟨w,H2,I2,rw2,ew,eh⟩=>wpAny_bind (wpAny_standAt (wpAny_pure (wpAny_evalAll_nil ⟨trivial,?_⟩)))))
  subst ew eh
  cases rw2
  rw [hks]
  have fin:∀ {l:Addr} {v0:V} {vr:List V} {x0:D} {ds:List D},u=.ref l->SqL X.K G1 l (v0::vr)->Rep X.K G1 v0 x0->Reps X.K G1 vr ds->(qB (fun d=>g [d]) (x0::ds)).post (Fin G1 H2 (Rep X.K) Q) (Exx X σ G1 H2)->
    wpAny (model X.prog X.w) X.A (call (.builtin "min") [u] [(Str.ofString "key",.ref f)]) (EP X pins σ Q) X.xe s2:=by
   intro l v0 vr x0 ds eu hq r0 rr h0
   subst eu
   rcases Bf (key:=fun d=>g [d]) (x:=x0) (xs:=ds) with ⟨kb,dd,eg,em,e1⟩|e1
   ·rw [e1] at h0
    exact Bp F hr (I2.ok.hd hc) hb hl1 I2 u1.sub hq r0 rr eg em fun v H' sm rp=>h0 v G1 H' ⟨u1.sub.trans sm,.refl _,sm,fun a o h=>.inl h⟩ rp
   ·rw [e1] at h0;exact h0.elim
  cases rd with
  | lst hq t=>
   cases rv
   cases t with
   | nil=>exact h1.elim
   | cons r0 t=>exact fin rfl (.of hq) r0 t h1
  | fls hq t=>
   cases rv
   cases t with
   | nil=>exact h1.elim
   | cons r0 t=>exact fin rfl hq r0 t h1
  | _=>exact h1.elim
theorem bo {c:Addr} (hg:Gl X x) (hm:X.mg x=some (.ref c)) (hk:lQ X.K c d) (hd:(x==("__debug__":Str))=false:=by decide):PF X (.Name x pos) (fun _=>.ok d):=by
 walk_at "u"
 exact fun pins s σ H Q I ⟨G,ρ,st,q⟩=>
  vR (v:=.ref c) hg hm rfl hd pins s σ H Q I (q _ G H (.refl st.sub) (hk G))
theorem Hc {a b:Expr} {ga:Ev->R D} (h:PF X (.Subscript a b pos) ga):PB X (.Subscript a b pos) (aH kn ga):=by
 with_unfolding_all exact pS h
end
section
theorem He {e:Expr} {ga:Ev->R D} (i:Nat) {ap cp:Pos} (he:PF X e ga) (hi:X.N[i]?=some x:=by rfl) (hv:Vis X.env.scope x:=by first|exact Or.inl rfl|exact Or.inr (Or.inl rfl))
 (hd:(x==("__debug__":Str))=false:=by decide) (hcd:(x==("__classdict__":Str))=false:=by decide) (hs1:starEach [e] X.env=(false,eval e X.env)::starEach [] X.env:=by rfl)
 (hbase:attributeBase (.Name x p) "extend" X.env (eval (.Name x p) X.env)=eval (.Name x p) X.env:=by rfl)
 (hfew:((backTo cp (starEach [e] X.env)).all (fun x=>!x.1) && (backToKw cp (keywordEach [] X.env)).all (fun x=>x.1.isSome)
 && decide ([e].length+([]:List Keyword).length+(if ([]:List Keyword).isEmpty then 0 else 1)<30))=true:=by rfl)
 (hline:(ap.endLine==cp.line)=true:=by rfl)
 (hs:swapsWith (.Call (.Attribute (.Name x p) "extend" ap) [e] [] cp) none pos.line X.env=pure false:=by rfl):PSF X (.Expr (.Call (.Attribute (.Name x p) "extend" ap) [e] [] cp) pos) (FY i ga):=by
 walk_at "u"
 exact fun G₀ H₀ pins s σ H D I h=>by
  refine oQ (B1 PySem.F.plainAttrs_list PySem.F.slot_list_extend PySem.F.type_list_extend FJ (gT hi hv hd hcd) (dh he jG hs1) hbase hfew hline hs1 rfl) hs pins s σ H D I ?_
  obtain ⟨G,ρ,sr,h⟩:=h
  have h:lj X G₀ H₀ D ((ownAt ρ i).out ρ fun ds=>(ga ρ).out ρ fun d=>(asT d).out ρ fun es=>if ds.length+es.length<=sizeLine then .nx (ρ.set i (some (.own (ds++es)))) else .no):=h
  obtain ⟨ds,e1,h⟩:=ownAt.ok h
  obtain ⟨l,vs,h1,h2,h3,h4,h5⟩:=sr.own i ds e1
  refine ⟨.ref l,h1,.inl ⟨rfl,vs,.of h2⟩,G,ρ,sr.e,?_⟩
  cases q:ga ρ with
  | ok d=>
   rw [q] at h
   simp only [R.out] at h
   intro v G' H' u r
   cases r with
   | tup hb t=>
    rename_i b ws es
    have h:lj X G₀ H₀ D (if ds.length+es.length<=sizeLine then .nx (ρ.set i (some (.own (ds++es)))) else .no):=h
    by_cases hz:ds.length+es.length<=sizeLine
    ·rw [if_pos hz] at h
     refine ⟨l,b,vs,ws,rfl,rfl,u.hh _ _ h2,hb.mono u.sub,by rw [h5.length,t.length];exact hz,h _ G' _ ?_⟩
     exact (sr.ups u).mut e1 h1 ((h5.mono u.gg).append t)
    ·rw [if_neg hz] at h;exact h.elim
   | _=>exact h.elim
  | ex C=>rw [q] at h;exact Exx.of sr h
  | no=>rw [q] at h;exact h
theorem Fl {ga:Ev->R D} {gl':Ev->R (List D)} (i j m:Nat) {z u:Str} {a b c:Expr} {py pz pu pt pt2:Pos} {k2:Nat} (hc:X.calm=true) (hN:X.N.Nodup) (ha:PF X a ga) (hb:PFL X b gl) (h3:PFL X c gl')
 (hij:i≠j:=by decide) (him:i≠m:=by decide) (hjm:j≠m:=by decide)
 (hi:X.N[i]?=some y:=by rfl) (hj:X.N[j]?=some z:=by rfl) (hm:X.N[m]?=some u:=by rfl) (hx:X.env.scope.names.lookup y=some .local:=by rfl) (hy:X.env.scope.names.lookup z=some .local:=by rfl) (hu:X.env.scope.names.lookup u=some .local:=by rfl)
 (hse:starEach [a,b,c] X.env=(false,eval a X.env)::starEach [b,c] X.env:=by rfl)
 (hse2:starEach [b,c] X.env=(false,eval b X.env)::starEach [c] X.env:=by rfl)
 (hse3:starEach [c] X.env=(false,eval c X.env)::starEach [] X.env:=by rfl)
 (hw:swappedStores [.Tuple [.Name y py,.Name z pz,.Name u pu] kt pt] (.Tuple [a,b,c] k2 pt2) X.env=pure (some [y,z,u]):=by rfl)
 (hs:swapsWithSole [.Tuple [.Name y py,.Name z pz,.Name u pu] kt pt] (.Tuple [a,b,c] k2 pt2) pos.line X.env=pure false:=by rfl):PSF X (.Assign [.Tuple [.Name y py,.Name z pz,.Name u pu] kt pt] (.Tuple [a,b,c] k2 pt2) pos) (AK i j m ga gl gl'):=by
 walk_at "u"
 exact fun G₀ H₀ pins s σ H D I ⟨G,ρ,sr,h⟩=>by
  refine Gu hc hN hi hj hm hij him hjm hx hy hu (dh ha (dh hb (dh h3 jG hse3) hse2) hse) hw hs pins s σ H D I ⟨G,ρ,sr.e,?_⟩
  have h:lj X G₀ H₀ D ((dH (ga ρ)).out ρ fun d=>(dH (gl ρ)).out ρ fun ds=>(dH (gl' ρ)).out ρ fun es=>.nx (((ρ.set i (some (.val d))).set j (some (.own ds))).set m (some (.own es)))):=h
  cases q:ga ρ with
  | ok d=>
   rw [q] at h
   intro v G1 H1 u1 r1
   refine ⟨G1,ρ,(sr.ups u1).e,?_⟩
   cases q':gl ρ with
   | ok ds=>
    simp only [R.out,dH,q'] at h
    intro l vs G2 H2 u2 hl r2
    have u4:Up G2 H2 G2 (upd H2 l (.lst vs)):=by
     refine ⟨fun a o e=>?_,.refl _,fun a o e=>?_,fun a o e=>.inl e⟩
     ·have:=u2.sub a o e;rw [aU (aN this hl)];exact this
     ·rw [aU (aN e hl)];exact e
    refine ⟨G2,ρ,(((sr.ups u1).ups u2).ups u4).e,?_⟩
    cases q'':gl' ρ with
    | ok es=>
     simp only [R.out,dH,q''] at h
     intro l' vs' G3 H3 u3 hl' r3
     exact ⟨v,_,_,rfl,h _ G3 _ (((((sr.ups u1).set r1 i).ups u2).setOwn hl r2 j).ups u3 |>.setOwn hl' r3 m)⟩
    | _=>simp only [R.out,dH,q''] at h;exact h.elim
   | _=>simp only [R.out,dH,q'] at h;exact h.elim
  | _=>rw [q] at h;exact h.elim
end
section
variable {ρ:Ev} {g g1 g2':Ev->O} {gt gu:Ev->R Bool} {ga gb gc:Ev->R D} {gl:Ev->R (List D)} {go gp:Ev->R (Option Int)} {i n:Nat} {f f':D->D->Option D} {asg:D->Ev->R Ev} {C:Addr}
theorem Fu:aC g1 g2' ρ=(g1 ρ).seq g2':=rfl
theorem MS:oIf gt g1 g2' ρ=(gt ρ).out ρ fun k=>if k=true then g1 ρ else g2' ρ:=rfl
theorem Ju:eF i ga ρ=(ga ρ).out ρ fun d=>.nx (ρ.set i (some (.val d))):=rfl
theorem J4:cw ga ρ=(ga ρ).out ρ .rt:=rfl
theorem MR:oNx ρ=.nx ρ:=rfl
theorem Kg:BD i gl ρ=(gl ρ).out ρ fun ds=>.nx (ρ.set i (some (.own ds))):=rfl
theorem HJ:oW ga ρ=(ga ρ).out ρ fun _=>.nx ρ:=rfl
theorem HQ:sK asg gl g ρ=(gl ρ).out ρ fun items=>cH asg g items ρ:=rfl
theorem Ft:jM C gl ρ=(gl ρ).out ρ fun _=>.ex C ρ:=rfl
theorem Ku:NK asg ga ρ=(ga ρ).out ρ fun d=>(asg d ρ).out ρ .nx:=rfl
theorem KS:BB i g ρ=g (frz i ρ):=rfl
theorem DV {α β:Type} {h:α->R β} {gx:Ev->R α}:aH h gx ρ=gx ρ>>=h:=rfl
theorem Mw {h:List D->Option D}:gOf h gl ρ=gl ρ>>=fun ds=>ofO (h ds):=rfl
theorem zX:aa ga gl ρ=ga ρ>>=fun x=>gl ρ>>=fun xs=>.ok (x::xs):=rfl
theorem Fx:cu gl ρ=gl ρ>>=fun ds=>.ok (.lst false ds):=rfl
theorem Kk:vJ gl ρ=gl ρ>>=fun ds=>if ds.length<=sizeLine then .ok ds else .no:=rfl
theorem MJ:gB2 f ga gb ρ=g2 f ga gb ρ>>=asB:=rfl
theorem Mx:gB3 f f' ga gb gc ρ=g3 f f' ga gb gc ρ>>=asB:=rfl
theorem Nh:gBn gt ρ=gt ρ>>=fun k=>.ok (!k):=rfl
theorem GO:iy ga ρ=ga ρ>>=fun x=>asI x>>=fun i=>.ok (some i):=rfl
theorem Hu {T:String} {h:D->List D->Option D}:sv T h ga gl ρ=ga ρ>>=fun x=>if oB T x=true then gl ρ>>=fun ds=>ofO (h x ds) else .no:=rfl
theorem MZ:g2 f ga gb ρ=ga ρ>>=fun x=>gb ρ>>=fun y=>ofO (f x y):=rfl
theorem Kx:oX ga gb ρ=ga ρ>>=fun x=>asB x>>=fun k=>if k=true then gb ρ else .ok (.bl false):=rfl
theorem M3:gOr ga gb ρ=ga ρ>>=fun x=>asB x>>=fun k=>if k=true then .ok (.bl true) else gb ρ:=rfl
theorem LM:K4 ga ρ=ga ρ>>=fun x=>asB x>>=fun k=>.ok (.bl (!k)):=rfl
theorem HL:BN gt gu ρ=gt ρ>>=fun k=>if k=true then gu ρ else .ok false:=rfl
theorem K0:ud gt gu ρ=gt ρ>>=fun k=>if k=true then .ok true else gu ρ:=rfl
theorem Lg:gIf gt ga gb ρ=gt ρ>>=fun k=>if k=true then ga ρ else gb ρ:=rfl
theorem MK:gSl ga go gp ρ=ga ρ>>=fun x=>go ρ>>=fun l=>gp ρ>>=fun u=>ofO (D7 l u x):=rfl
theorem IL:gm gl ix gt ga ρ=gl ρ>>=fun items=>eO gt ga items (gW ix ρ)>>=fun ds=>if ds.length<=sizeLine then .ok ds else .no:=rfl
theorem Bk {h:List D->R D}:aM 1 h (aa ga fun _=>.ok []) ρ=ga ρ>>=fun x=>h [x]:=DK
theorem Er {h:List D->R D}:aM 2 h (aa ga (aa gb fun _=>.ok [])) ρ=ga ρ>>=fun x=>gb ρ>>=fun y=>h [x,y]:=zy
theorem Fo {h:List D->R D}:aM 3 h (aa ga (aa gb (aa gc fun _=>.ok []))) ρ=ga ρ>>=fun x=>gb ρ>>=fun y=>gc ρ>>=fun z=>h [x,y,z]:=Aq
theorem F9 {h:List D->R D} {gd:Ev->R D}:aM 4 h (aa ga (aa gb (aa gc (aa gd fun _=>.ok [])))) ρ=ga ρ>>=fun x=>gb ρ>>=fun y=>gc ρ>>=fun z=>gd ρ>>=fun u=>h [x,y,z,u]:=by
 unfold aM
 simp only [zX]
 cases ga ρ <;> try rfl
 simp only [R.ok_bind]
 cases gb ρ <;> try rfl
 simp only [R.ok_bind]
 cases gc ρ <;> try rfl
 simp only [R.ok_bind]
 cases gd ρ <;> rfl
end
theorem LR (i:Nat) (ga:Ev->R D) (ρ:Ev):JR i ga ρ=(ownAt ρ i).out ρ fun ds=>(ga ρ).out ρ fun d=>(asL d).out ρ fun es=>if ds.length+es.length<=sizeLine then .nx (ρ.set i (some (.own (ds++es)))) else .no:=rfl
theorem Kf (i:Nat) (ga:Ev->R D) (ρ:Ev):EX i ga ρ=(ownAt ρ i).out ρ fun ds=>(ga ρ).out ρ fun d=>if ds.length<sizeLine then .nx (ρ.set i (some (.own (ds++[d])))) else .no:=rfl
theorem La (i j:Nat) (gl:Ev->R (List D)) (ρ:Ev):Mz i j gl ρ=(gl ρ).out ρ fun ds=>(sZ [i,j] ds ρ).out ρ .nx:=rfl
theorem ML (ds:List D) (ρ:Ev):ownAt (some (.own ds)::ρ) 0=.ok ds:=rfl
theorem MU (a0:Option Sl) (ds:List D) (ρ:Ev):ownAt (a0::some (.own ds)::ρ) 1=.ok ds:=rfl
theorem Nf (a0 a1:Option Sl) (ds:List D) (ρ:Ev):ownAt (a0::a1::some (.own ds)::ρ) 2=.ok ds:=rfl
theorem asl (ds:List D):asL (.lst false ds)=.ok ds:=rfl
theorem NG (a0:Option Sl) (ds:List D) (ρ:Ev):frz 1 (a0::some (.own ds)::ρ)=a0::some (.val (.lst false ds))::ρ:=rfl
noncomputable def g3k (f':D->D->Option D) (r:R D) (y:D):D->R D
 | .bl true=>r>>=fun w=>ofO (f' y w)
 | .bl false=>.ok (.bl false)
 | _=>.no
theorem MO (f f':D->D->Option D) (ga gb gc:Ev->R D) (ρ:Ev):g3 f f' ga gb gc ρ=ga ρ>>=fun x=>gb ρ>>=fun y=>ofO (f x y)>>=g3k f' (gc ρ) y:=rfl
theorem Lp (f':D->D->Option D) (r:R D) (y:D) (b:Bool):g3k f' r y (.bl b)=if b=true then (r>>=fun w=>ofO (f' y w)) else .ok (.bl false):=by cases b <;> rfl
theorem sv2 (i j:Nat) (x y:D) (ρ:Ev):sZ [i,j] [x,y] ρ=.ok ((ρ.set i (some (.val x))).set j (some (.val y))):=rfl
theorem NA (a0 a1 a2 a3:Option Sl) (ds:List D) (ρ:Ev):frz 4 (a0::a1::a2::a3::some (.own ds)::ρ)=a0::a1::a2::a3::some (.val (.lst false ds))::ρ:=rfl
theorem JW (ρ:Ev) (k:Ev->O):(O.nx ρ).seq k=k ρ:=rfl
theorem KU (d:D) (k:Ev->O):(O.rt d).seq k=.rt d:=rfl
theorem Nt (C:Addr) (ρ:Ev) (k:Ev->O):(O.ex C ρ).seq k=.ex C ρ:=rfl
theorem Mq (k:Ev->O):(O.no).seq k=.no:=rfl
theorem Mj (d:D):aq (.rt d)=.ok d:=rfl
theorem M6 (ρ:Ev):aq (.nx ρ)=.ok .non:=rfl
theorem Mt (C:Addr) (ρ:Ev):aq (.ex C ρ)=.ex C:=rfl
theorem Nr (k:Bool):asB (.bl k)=.ok k:=rfl
theorem vc (i:Int):asI (.int i)=.ok i:=rfl
theorem MB (k:Bool):kn (.bl k)=.ok k:=rfl
theorem rd7 (a0 a1 a2 a3 a4 a5 a6:Option Sl) (d:D) (ρ:Ev):rdV (a0::a1::a2::a3::a4::a5::a6::some (.val d)::ρ) 7=.ok d:=rfl
theorem rd8 (a0 a1 a2 a3 a4 a5 a6 a7:Option Sl) (d:D) (ρ:Ev):rdV (a0::a1::a2::a3::a4::a5::a6::a7::some (.val d)::ρ) 8=.ok d:=rfl
theorem rd9 (a0 a1 a2 a3 a4 a5 a6 a7 a8:Option Sl) (d:D) (ρ:Ev):rdV (a0::a1::a2::a3::a4::a5::a6::a7::a8::some (.val d)::ρ) 9=.ok d:=rfl
theorem No (a0 a1 a2 a3 a4 a5 a6 a7 a8 a9:Option Sl) (d:D) (ρ:Ev):rdV (a0::a1::a2::a3::a4::a5::a6::a7::a8::a9::some (.val d)::ρ) 10=.ok d:=rfl
theorem ND (a0 a1 a2 a3 a4 a5 a6 a7 a8 a9 a10:Option Sl) (d:D) (ρ:Ev):rdV (a0::a1::a2::a3::a4::a5::a6::a7::a8::a9::a10::some (.val d)::ρ) 11=.ok d:=rfl
theorem Nu (a0 a1 a2 a3 a4 a5 a6 a7 a8 a9 a10 a11:Option Sl) (d:D) (ρ:Ev):rdV (a0::a1::a2::a3::a4::a5::a6::a7::a8::a9::a10::a11::some (.val d)::ρ) 12=.ok d:=rfl
section
variable (i j:Int)
theorem Kq:bR (.int i) (.int j)=some (.int (i+j)):=by simp only [bR]
theorem JX:vM (.int i) (.int j)=some (.int (i - j)):=by simp only [vM]
theorem Nc:leD (.int i) (.int j)=some (.bl (decide (i<=j))):=by simp only [leD]
theorem MM:ltD (.int i) (.int j)=some (.bl (decide (i<j))):=by simp only [ltD]
theorem NH:gtD (.int i) (.int j)=some (.bl (decide (j<i))):=by simp only [gtD]
theorem MC:geD (.int i) (.int j)=some (.bl (decide (j<=i))):=by simp only [geD]
theorem Ny:eqF (.int i) (.int j)=some (.bl (i==j)):=by simp only [eqF,eqD,Option.map_some]
theorem LZ:neF (.int i) (.int j)=some (.bl (!(i==j))):=by simp only [neF,eqD,Option.map_some]
end
theorem DQ {i j:Int} (h : -(2 ^ 64)<i/\i<2 ^ 64):fH (.int i) (.int j)=some (.int (i * j)):=by simp only [fH];rw [if_pos (Or.inl h)]
theorem vB {x y:List Nat} (h:x.length+y.length<=sizeLine):bR (.str x) (.str y)=some (.str (x++y)):=by simp only [bR];rw [if_pos h]
theorem Hv {x y:List D} (h:x.length+y.length<=sizeLine):bR (.tup x) (.tup y)=some (.tup (x++y)):=by simp only [bR];rw [if_pos h]
theorem L4 (x y:List Nat):eqF (.str x) (.str y)=some (.bl (x==y)):=by simp only [eqF,eqD,Option.map_some]
theorem Nw (x y:List Nat):neF (.str x) (.str y)=some (.bl (!(x==y))):=by simp only [neF,eqD,Option.map_some]
theorem xm {α:Type} (n:Nat) (x:α):(List.replicate n [x]).flatten=List.replicate n x:=by
 induction n with
 | zero=>rfl
 | succ n ih=>rw [List.replicate_succ,List.flatten_cons,ih];rfl
theorem bE:(1000:Nat)<=sizeLine:=by decide
theorem Fs {c n:Nat} (h:n<=1000):fH (.str [c]) (.int (n:Int))=some (.str (List.replicate n c)):=by
 have:=bE
 simp only [fH]
 rw [if_pos (by refine ⟨by omega,by omega,?_⟩;simp;omega),Int.toNat_natCast,xm]
theorem HE {c:D} {n:Nat} (h:n<=1000):fH (.lst false [c]) (.int (n:Int))=some (.lst false (List.replicate n c)):=by
 have:=bE
 simp only [fH]
 rw [if_pos (by refine ⟨by omega,by omega,?_⟩;simp;omega),Int.toNat_natCast,xm]
theorem JN {xs:List D} (h:xs[k]?=some d):ixD (.tup xs) (.int (k:Int))=some d:=by simp only [ixD];exact uP h
theorem L8 {xs:List D} (h:xs[k]?=some d):ixD (.lst fz xs) (.int (k:Int))=some d:=by simp only [ixD];exact uP h
theorem JT {x:List Nat} {c:Nat} (h:x[k]?=some c):ixD (.str x) (.int (k:Int))=some (.str [c]):=by simp only [ixD];rw [uP h];rfl
theorem CW {α:Type} (xs:List α) (k:Nat):jT xs none (some (k:Int))=xs.take k:=by
 unfold jT
 rw [HT.sIx_none,HT.sIx_nat,List.drop_zero,Nat.sub_zero]
 by_cases h:k<=xs.length
 ·rw [Nat.min_eq_left h]
 ·rw [Nat.min_eq_right (by omega),List.take_length,List.take_of_length_le (by omega)]
theorem vj {α:Type} (xs:List α) (k:Nat):jT xs (some (k:Int)) none=xs.drop k:=by
 unfold jT
 rw [HT.sIx_none,HT.sIx_nat]
 by_cases h:k<=xs.length
 ·rw [Nat.min_eq_left h,List.take_of_length_le (by simp)]
 ·rw [Nat.min_eq_right (by omega),List.drop_length,List.take_nil,List.drop_of_length_le (by omega)]
theorem Jt (lo hi:Option Int) (x:List Nat):D7 lo hi (.str x)=some (.str (jT x lo hi)):=rfl
theorem Lx (lo hi:Option Int) (x:List D):D7 lo hi (.tup x)=some (.tup (jT x lo hi)):=rfl
theorem KY (fz:Bool) (x:List D):eS [.lst fz x]=some (.int x.length):=rfl
theorem IG (x:List D):eS [.tup x]=some (.int x.length):=rfl
theorem KP (x:List Nat):eS [.str x]=some (.int x.length):=rfl
theorem m_t (h:ds.length<=1000):mkT ds=.ok (.tup ds):=if_pos (Nat.le_trans h bE)
theorem qN {n:Nat} (h:n<=1000):cr [.int (n:Int)]=.ok ((List.range n).map fun (i:Nat)=>D.int (i:Int)):=by
 have e:cr [.int (n:Int)]=if -(2 ^ 62)<=(n:Int)/\(n:Int)<2 ^ 62 then .ok ((List.range (n:Int).toNat).map fun i=>D.int (0+(i:Nat))) else .no:=by simp only [cr]
 rw [e,if_pos (by constructor <;> omega),Int.toNat_natCast]
 simp only [Int.zero_add]
theorem NF {α:Type} (a v:α) (l:List α):(a::l).set 0 v=v::l:=rfl
theorem pY (asg:D->Ev->R Ev) (g:Ev->O) (ρ:Ev):cH asg g [] ρ=.nx ρ:=rfl
theorem eR {g:Ev->O} {ρ1 ρ2:Ev} (h1:asg d ρ=.ok ρ1) (h2:g ρ1=.nx ρ2):cH asg g (d::ds) ρ=cH asg g ds ρ2:=by
 rw [cH,h1]
 show (match g ρ1 with
  | .nx ρ2=>cH asg g ds ρ2
  | .ct ρ2=>cH asg g ds ρ2
  | .bk ρ2=>O.nx ρ2
  | .rt d=>O.rt d
  | .re d ρ2=>.re d ρ2
  | .ex C ρ2=>O.ex C ρ2
  | .no=>O.no)=_
 rw [h2]
theorem rC {e:Expr} (hg:Gl X "tuple") (hm:X.mg "tuple"=none) (ha:PFA X [e] gl) (he:starEach [e] X.env=(false,eval e X.env)::starEach [] X.env:=by rfl) :
  PF X (.Call (.Name "tuple" p) [e] [] pos) (gOf nP gl):=zS qQ (Cu _) hg hm PyProof.Rows.Boot.«tuple» ha (by decide) (by decide) he rfl
theorem IA {a b:Expr} {ga:Ev->R D} (ha:PF X a ga) (hb:PF X b gb):PB X (.Compare a [.GtE] [b] pos) (gB2 geD ga gb):=KC ha hb
noncomputable def iq:D->List D->Option D
 | .str x,[.int i]=>if -1000<=i/\i<=1000 then some (.str (x++List.replicate (i.toNat - x.length) 32)) else none
 | _,_=>none
noncomputable def DT:V->List V->Hp->VK->Prop:=fun x vs H Q=>∃ (y:Str) (i:Int),x=.str y/\vs=[.int i]/\-1000<=i/\i<=1000/\Q (.str (Txt.ljust y i)) H
theorem Da:MtR X "str.ljust" DT:=by
 intro pins s σ H x xs v us Q I rx rv ⟨y,i,ex,exs,h1,h2,q⟩
 subst ex exs
 obtain ⟨t,rfl⟩:=rx
 obtain ⟨u,rfl,r1⟩:=rv.one
 obtain ⟨t',rfl⟩:=r1
 exact SC.ljust (padOk_of (by omega) (by omega)) (fun t'' k=>⟨.str _,H,I.tok _,⟨_,rfl⟩,q⟩)
theorem tI (y:Str) (i:Int):(Txt.ljust y i).cps.toList=y.cps.toList++List.replicate (i.toNat - y.cps.toList.length) 32:=by
 unfold Txt.ljust
 have hl:y.length=y.cps.toList.length:=by simp [Str.length]
 split
 ·rename_i h
  have:i.toNat - y.cps.toList.length=0:=by omega
  rw [this];simp
 ·simp [Builtin.Str.padded,Str.length]
theorem BK (K:PySem.W.Frag):JQ K "str" DT iq:=by
 intro G H x xs dx ds d Q s rx rs e q
 unfold iq at e
 split at e
 ·split at e
  ·rename_i hi
   cases e
   obtain ⟨v,rfl,r1⟩:=rs.one
   obtain ⟨y,rfl,ey,hy⟩:=rx.str_inv
   obtain rfl:=r1.int_inv
   refine ⟨y,_,rfl,rfl,hi.1,hi.2,q _ G H (.refl s) (.strL (by rw [tI,ey]) ?_)⟩
   have h1:y.length=y.cps.toList.length:=by simp [Str.length]
   have:=bE
   rw [h1,ey] at hy
   simp;omega
  ·cases e
 ·cases e
theorem Bl {o e:Expr} {ga:Ev->R D} {ap cp:Pos} (ho:PF X o ga) (ha:PFA X [e] gl) (hbase:attributeBase o "ljust" X.env (eval o X.env)=eval o X.env:=by rfl)
 (hfew:((backTo cp (starEach [e] X.env)).all (fun x=>!x.1) && (backToKw cp (keywordEach [] X.env)).all (fun x=>x.1.isSome)
 && decide ([e].length+([]:List Keyword).length+(if ([]:List Keyword).isEmpty then 0 else 1)<30))=true:=by rfl)
 (hline:(ap.endLine==cp.line)=true:=by rfl) (hs:starEach [e] X.env=(false,eval e X.env)::starEach [] X.env:=by rfl) :
  PF X (.Call (.Attribute o "ljust" ap) [e] [] cp) (sv "str" iq ga gl):=Gh PySem.F.plainAttrs_str PySem.F.slot_str_ljust PySem.F.type_str_ljust Da (BK _) ho ha hbase hfew hline hs rfl
theorem Li {l:List Str} {y5 y6 y7 y8 y9 y10 y11:Str}:At (y0::y1::y2::y3::y4::y5::y6::y7::y8::y9::y10::y11::x::l) 12 x:=rfl
theorem MQ (a0 a1 a2 a3 a4 a5 a6 a7 a8 a9 a10 a11 a12:Option Sl) (d:D) (ρ:Ev):rdV (a0::a1::a2::a3::a4::a5::a6::a7::a8::a9::a10::a11::a12::some (.val d)::ρ) 13=.ok d:=rfl
theorem M9 (a0 a1 a2 a3 a4 a5 a6 a7 a8 a9 a10 a11 a12 a13:Option Sl) (d:D) (ρ:Ev):rdV (a0::a1::a2::a3::a4::a5::a6::a7::a8::a9::a10::a11::a12::a13::some (.val d)::ρ) 14=.ok d:=rfl
theorem KF (i:Nat) (gt:Ev->R Bool) (g1 g2:Ev->O) (ρ:Ev):J8 i gt g1 g2 ρ=(dH (gt (frz i ρ))).out ρ fun k=>if k=true then g1 ρ else g2 ρ:=rfl
theorem IS (j i:Nat) (ga:Ev->R D) (ρ:Ev):C4 j i ga ρ=(dH (ga (frz j ρ))).out ρ fun d=>if fl 10 d=true then .nx (ρ.set i (some (.val d))) else .no:=rfl
theorem Ik (j i:Nat) (ga:Ev->R D) (ρ:Ev):Lk j i ga ρ=(ownAt ρ i).out ρ fun ds=>(dH (ga (frz j ρ))).out ρ fun d=>if ds.length<sizeLine/\fl 10 d=true then .nx (ρ.set i (some (.own (ds++[d])))) else .no:=rfl
noncomputable def HG (i:Nat) (ρ:Ev) (ds:List D) (d:D):Option Nat->O
 | some n=>if fl 10 d=true then .nx (ρ.set i (some (.own (ds.set n d)))) else .no
 | none=>.no
theorem Ie (i:Nat) (gk ga:Ev->R D) (ρ:Ev):CN i gk ga ρ=(ownAt ρ i).out ρ fun ds=>(dH (ga (frz i ρ))).out ρ fun d=>(dH (gk (frz i ρ)>>=asI)).out ρ fun k=>HG i ρ ds d (ixN ds.length k):=rfl
theorem yP (i:Nat) (ρ:Ev) (ds:List D) (d:D) (n:Nat):HG i ρ ds d (some n)=if fl 10 d=true then .nx (ρ.set i (some (.own (ds.set n d)))) else .no:=rfl
theorem G6 (gl:Ev->R (List D)) (ρ:Ev):FA gl ρ=gl ρ>>=EV:=rfl
theorem KJ (xs:List D):EV [.tup xs]=.ok xs:=rfl
theorem Ey (ga gb:Ev->R D) (ρ:Ev):HI ga gb ρ=ga ρ>>=fun x=>gb ρ>>=fun c=>DP x c:=rfl
theorem Es (n:Nat) (asg:D->Ev->R Ev) (gl:Ev->R (List D)) (ix:List Nat) (gt:Ev->R Bool) (ga:Ev->R D) (ρ:Ev):pi n asg gl ix gt ga ρ=gl ρ>>=fun items=>gC asg gt ga items (gG n ix ρ)>>=fun ds=>if ds.length<=sizeLine then .ok ds else .no:=rfl
theorem GT (i j:Nat) (ga:Ev->R D) (gl:Ev->R (List D)) (ρ:Ev):Kv i j ga gl ρ=(ga ρ).out ρ fun d=>(gl ρ).out ρ fun ds=>.nx ((ρ.set i (some (.val d))).set j (some (.own ds))):=rfl
theorem JU (f:Bool) (lo hi:Option Int) (x:List D):D7 lo hi (.lst f x)=some (.lst false (jT x lo hi)):=rfl
theorem KN (ga gs:Ev->R D) (ρ:Ev):Nb ga gs ρ=ga ρ>>=fun x=>gs ρ>>=fun k=>JG x k:=rfl
theorem Kp (x:List Nat):JG (.str x) (.int (-1))=.ok (.str x.reverse):=rfl
theorem Lc (f:Bool) (x:List D):JG (.lst f x) (.int (-1))=.ok (.lst false x.reverse):=rfl
theorem KL (f:Bool) (xs:List D):EV [.lst f xs]=.ok xs:=rfl
noncomputable def Lf (i:Nat):O->O
 | .nx ρ=>.nx (ρ.set i none)
 | .rt d=>.rt d
 | _=>.no
noncomputable def GX (gs:Ev->O) (f:Addr->Option Bool) (i:Nat):O->O
 | .ex C ρ=>(match f C with
  | some true=>Lf i (gs (ρ.set i (some (.val (.exc C)))))
  | _=>.no)
 | o=>o
theorem K9 (gb gs:Ev->O) (f:Addr->Option Bool) (i:Nat) (ρ:Ev):Mi gb gs f i ρ=GX gs f i (gb ρ):=by
 unfold Mi GX
 cases gb ρ <;> rfl
theorem Gj (gs:Ev->O) (f:Addr->Option Bool) (i:Nat) (ρ:Ev):GX gs f i (.nx ρ)=.nx ρ:=rfl
theorem E2 {gs:Ev->O} {f:Addr->Option Bool} (h:f C=some true):GX gs f i (.ex C ρ)=Lf i (gs (ρ.set i (some (.val (.exc C))))):=by
 simp only [GX,h]
theorem EU (i:Nat) (ρ:Ev):Lf i (.nx ρ)=.nx (ρ.set i none):=rfl
noncomputable def II (gs:List (Ev->R D)) (out:List Nat) (ρ:Ev):D->R D
 | .str x=>if (out++x).length<=sizeLine then vZ gs (out++x) ρ else .no
 | _=>.no
theorem Ha (gs:List (Ev->R D)) (ρ:Ev):LN gs ρ=vZ gs [] ρ:=rfl
theorem Ew (out:List Nat) (ρ:Ev):vZ [] out ρ=.ok (.str out):=rfl
theorem FK (g:Ev->R D) (gs:List (Ev->R D)) (out:List Nat) (ρ:Ev):vZ (g::gs) out ρ=g ρ>>=II gs out ρ:=rfl
theorem FL (gs:List (Ev->R D)) (out:List Nat) (ρ:Ev) (x:List Nat):II gs out ρ (.str x)=if (out++x).length<=sizeLine then vZ gs (out++x) ρ else .no:=rfl
theorem Kr (x:List Nat):Ni (.str x)=.ok (.str x):=rfl
theorem HV (j i:Nat) (gl:Ev->R (List D)) (ρ:Ev):Lu j i gl ρ=(dH (gl (frz j ρ))).out ρ fun ds=>if ds.all (fl 10)=true then .nx (ρ.set i (some (.own ds))) else .no:=rfl
theorem Ld (n:Nat) (gt:Ev->R Bool) (g:Ev->O) (ρ:Ev):Jq n gt g ρ=wE gt g n ρ:=rfl
theorem E0 (gi:Ev->R (List D)) (ix:List Nat) (gt:Ev->R Bool) (ge:Ev->R D) (ρ:Ev):G0 gi ix gt ge ρ=gi ρ>>=fun items=>if items.length<=sizeLine then xv (kU 0) gt ge items (gW ix ρ) else .no:=rfl
theorem Eu (C:Addr) (i k:Nat) (gb:Ev->R D) (ρ:Ev):Jf C i k gb ρ=(Eb C ρ i>>=fun fs=>GE fs k>>=fun ds=>gb ρ>>=fun d=>ofO (ixD (.lst false ds) d)):=rfl
theorem CL (C:Addr) (i k:Nat) (ρ:Ev):Gp C i k ρ=(Eb C ρ i>>=fun fs=>GE fs k>>=fun ds=>.ok (.int ds.length)):=rfl
theorem Hs (C:Addr) (i k:Nat) (ga:Ev->R D) (ρ:Ev):KK C i k ga ρ=(yb C ρ i).out ρ fun o=>(GE o.2 k).out ρ fun ds=>(ga ρ).out ρ fun d=>if ds.length<sizeLine then .nx (ρ.set i (some (.obj true C o.1 (ug k (.own (ds++[d])) o.2)))) else .no:=rfl
theorem HR (C:Addr) (i k:Nat) (gl:Ev->R (List D)) (ρ:Ev):K8 C i k gl ρ=(yb C ρ i).out ρ fun o=>(gl ρ).out ρ fun ds=>if o.2.length<900 then .nx (ρ.set i (some (.obj true C o.1 (ug k (.own ds) o.2)))) else .no:=rfl
theorem Jj (ga:Ev->R D) (ρ:Ev):Lb ga ρ=(ga ρ).out ρ fun d=>.re d ρ:=rfl
theorem Fb (C:Addr) (i n:Nat) (F:MF) (gl:Ev->R (List D)) (ρ:Ev):HU C i n F gl ρ=(Eb C ρ i>>=fun fs=>gl ρ>>=fun ds=>if ds.length=n then (F fs ds).read else .no):=rfl
theorem BX (C:Addr) (i:Nat) (F:MF) (ρ:Ev):F0 C i F ρ=(Eb C ρ i>>=fun fs=>(F fs []).read):=rfl
theorem GC (C:Addr) (i n:Nat) (F:MF) (gl:Ev->R (List D)) (ρ:Ev):JZ C i n F gl ρ=(yb C ρ i).out ρ fun o=>(gl ρ).out ρ fun ds=>if ds.length=n then (F o.2 ds).out C o.1 i ρ else .no:=rfl
theorem FH (C:Addr) (i:Nat) (F:MF) (ρ:Ev):GI C i F ρ=(yb C ρ i).out ρ fun o=>(F o.2 []).out C o.1 i ρ:=rfl
theorem Nz (d:D) (ρ:Ev) (k:Ev->O):(O.re d ρ).seq k=.re d ρ:=rfl
theorem LB (d:D):RM.read (.rd d)=.ok d:=rfl
theorem KD (C:Addr):RM.read (.ex C)=.ex C:=rfl
theorem G9 (d:D) (fs:List (Nat×Fd)) (C p:Addr) (i:Nat) (ρ:Ev):RM.out (.ok d fs) C p i ρ=.nx (ρ.set i (some (.obj true C p fs))):=rfl
theorem IQ (d:D) (C p:Addr) (i:Nat) (ρ:Ev):RM.out (.rd d) C p i ρ=.nx ρ:=rfl
theorem HZ (E C p:Addr) (i:Nat) (ρ:Ev):RM.out (.ex E) C p i ρ=.ex E ρ:=rfl
end L2
section
open L2
set_option compiler.extract_closed false in
local macro_rules | `(tactic| walk_at "run")=>`(tactic| simp -implicitDefEqProofs only [rvz,ciz,nlz,csz,GN,Im,Je,Hj,E0,↓Bk,↓Er,↓Fo,↓F9,Fu,MS,Ju,J4,MR,Kg,HJ,HQ,Ft,Ku,KS,DV,Mw,zX,Fx,Kk,MJ,Mx,Nh,GO,Hu,MZ,Kx,M3,LM,HL,K0,Lg,MK,IL,LR,Kf,Ik,KF,IS,Ie,mT,G6,Ey,Es,GT,JU,KN,Kp,Lc,yP,KJ,KL,MQ,M9,and_self,La,ML,MU,Nf,asl,NG,NA,MO,Lp,sv2,JW,KU,Nt,Mq,Mj,M6,Mt,Nr,vc,MB,rd0,rd1,rd2,rd3,rd4,rd5,rd6,rd7,rd8,rd9,No,ND,Nu,R.ok_bind,R.ok_out,R.ex_bind,R.ex_out,cG,Kq,JX,Nc,MM,NH,MC,Ny,LZ,L4,Nw,KY,IG,KP,Jt,Lx,NF,List.set_cons_succ,List.length_nil,List.length_cons,List.cons_append,List.nil_append,Nat.reduceAdd,Nat.reduceBEq,Bool.not_true,Bool.not_false,Bool.false_eq_true,if_false,if_true,HV,Ld,K9,Gj,E2,EU,Ha,Ew,FK,FL,Kr,Int.reduceLT,Int.reduceLE,Int.reduceBEq,decide_true,decide_false,Eu,CL,Hs,HR,Jj,Fb,BX,GC,FH,Nz,LB,KD,G9,IQ,HZ, *])
namespace Q
open L2
open PySem (sizeLine Addr)
def L9:D->Bool
 | .int _=>true
 | _=>false
noncomputable def Ca:List D->R D
 | [.exc _]=>.no
 | [.dct _ _]=>.no
 | [d]=>.ok (.bl (L9 d))
 | _=>.no
noncomputable def mV:Ev->O:=(cw (oX (aH (jA isInt) (rvz 0)) (K4 (aH (jA (·=="bool")) (rvz 0)))))
def fh:Ev->O:=(aC mV oNx)
theorem uh:∀ ds:List D,ds.length=1->Ca ds=.no\/aq (fh  (ar 1 ds))=Ca ds:=by
 intro ds hl
 unfold fh mV
 match ds,hl with
 | [d],_=>cases d <;> first|exact Or.inr rfl|exact Or.inl rfl
noncomputable def inB (d:D) (lo hi:Int):Bool:=match d with
 | .int i=>decide (lo<=i) && decide (i<=hi)
 | _=>false
noncomputable def Bz:List D->R D
 | [.exc _,_,_]=>.no
 | [.dct _ _,_,_]=>.no
 | [d,.int lo,.int hi]=>.ok (.bl (inB d lo hi))
 | _=>.no
noncomputable def ly (df:List D->R D):Ev->O:=(cw (oX (aM 1 df (aa (rvz 0) nlz)) (g3 leD leD (rvz 1) (rvz 0) (rvz 2))))
def dP (df:List D->R D):Ev->O:=(aC (ly df) oNx)
theorem sX:∀ ds:List D,ds.length=3->Bz ds=.no\/aq (dP Ca (ar 3 ds))=Bz ds:=by
 intro ds hl
 unfold dP ly
 match ds,hl with
 | [d,l,h],_=>
  cases d <;> first|exact Or.inl rfl|skip
  all_goals (cases l <;> first|exact Or.inl rfl|skip)
  all_goals (cases h <;> first|exact Or.inl rfl|skip)
  all_goals first|exact Or.inr rfl|skip
  rename_i i lo hi hl
  refine Or.inr ?_
  show aq (aC _ oNx [some (.val (.int i)),some (.val (.int lo)),some (.val (.int hi))])=R.ok (D.bl (inB (.int i) lo hi))
  by_cases h1:lo<=i <;> simp [aC,cw,oX,aM,aa,g3,rdV,Ca,L9,asB,leD,inB,aq,O.seq,h1]
noncomputable def bh (x:List Nat):Bool:=x.all fun c=>decide (32<=c) && decide (c<=126)
def Nv:D->Bool
 | .str x=>bh x
 | _=>false
noncomputable def mi:List D->R D
 | [.exc _]=>.no
 | [.dct _ _]=>.no
 | [.str x]=>if x.length<=sizeLine then .ok (.bl (bh x)) else .no
 | [d]=>.ok (.bl false)
 | _=>.no
noncomputable def nL:Ev->O:=(cw (oX (aH (jA (·=="str")) (rvz 0)) (gOf DF (aa (cu (gm (aH ce (rvz 0)) [] (fun _=>R.ok true) (g3 leD leD (csz [32]) (rvz 0) (csz [126])))) nlz))))
def fk:Ev->O:=(aC nL oNx)
theorem uM:∀ ds:List D,ds.length=1->mi ds=.no\/aq (fk  (ar 1 ds))=mi ds:=by
 intro ds hl
 unfold fk nL
 match ds,hl with
 | [d],_=>
  cases d <;> first|exact Or.inl rfl|exact Or.inr rfl|skip
  rename_i x hl
  by_cases hx:x.length<=sizeLine
  ·refine Or.inr ?_
   have e:eO (fun _=>R.ok true) (g3 leD leD (fun _=>.ok (.str [32])) (rvz 0) (fun _=>.ok (.str [126]))) (x.map fun c=>D.str [c]) [none]=.ok ((x.map fun c=>D.str [c]).map fun d=>.bl (match d with|.str [c]=>decide (32<=c) && decide (c<=126)|_=>false)):=by
    refine eB _ [] _ none fun d m=>⟨rfl,?_⟩
    obtain ⟨c,_,rfl⟩:=List.mem_map.1 m
    show (ofO (some (D.bl (!decide (([c]:List Nat)<[32]))))>>=fun z=>match z with
     | .bl true=>ofO (some (D.bl (!decide (([126]:List Nat)<[c]))))
     | .bl false=>R.ok (D.bl false)
     | _=>R.no:R D)=_
    rw [A1,A1,cG,R.ok_bind]
    cases h1:decide (32<=c) <;> simp [h1]
   have e2:mi [.str x]=.ok (.bl (bh x)):=if_pos hx
   rw [e2]
   show aq (aC _ oNx [some (.val (.str x))])=_
   simp only [aC,cw,oX,aH,gOf,aa,cu,gm,rd0,jA,tyN,asB,gW,ce,R.ok_bind,List.map_nil]
   simp only [beq_self_eq_true,if_true,e,R.ok_bind]
   simp only [List.length_map,hx,if_true,R.ok_bind,lV,cG,R.ok_out,aq,O.seq,List.all_map,bh]
   rfl
  ·exact Or.inl (if_neg hx)
noncomputable def G8:D->Bool
 | .exc _=>false
 | .dct _ _=>false
 | .str x=>decide (x.length<=sizeLine)
 | _=>true
noncomputable def AL (d:D) (wd:Int):Bool:=match d with
 | .str x=>bh x && ((x.length:Int)==wd)
 | _=>false
noncomputable def yu (d:D) (wd:Int):Bool:=match d with
 | .tup xs=>decide (1<=xs.length) && decide (xs.length<=12) && xs.all fun r=>AL r wd
 | _=>false
noncomputable def Ac:List D->R D
 | [.exc _,_]=>.no
 | [.dct _ _,_]=>.no
 | [.tup xs,.int wd]=>if xs.all G8=true then .ok (.bl (yu (.tup xs) wd)) else .no
 | [d,.int wd]=>.ok (.bl false)
 | _=>.no
theorem yy (h:G8 d=true):mi [d]=.ok (.bl (Nv d)):=by
 cases d <;> first|rfl|(cases h;done)|skip
 exact if_pos (of_decide_eq_true h)
noncomputable def gE (aO:List D->R D):Ev->O:=(oIf (ud (gBn (aH kn (aH (jA (·=="tuple")) (rvz 0)))) (gBn (gB3 leD leD (ciz 1) (gOf eS (aa (rvz 0) nlz)) (ciz 12)))) (aC (cw (fun _=>R.ok (D.bl false))) oNx) oNx)
noncomputable def gJ (aO:List D->R D):Ev->O:=(cw (gOf DF (aa (cu (gm (aH ce (rvz 0)) [1] (fun _=>R.ok true) (oX (aM 1 aO (aa (rvz 0) nlz)) (g2 eqF (gOf eS (aa (rvz 0) nlz)) (rvz 1))))) nlz)))
noncomputable def cE (aO:List D->R D):Ev->O:=(aC (gE aO) (aC (gJ aO) oNx))
theorem lL:∀ ds:List D,ds.length=2->Ac ds=.no\/aq (cE mi (ar 2 ds))=Ac ds:=by
 intro ds hl
 unfold cE gE gJ
 match ds,hl with
 | [d,l],_=>
  cases d <;> first|exact Or.inl rfl|skip
  all_goals (cases l <;> first|exact Or.inl rfl|exact Or.inr rfl|skip)
  rename_i xs wd hl
  by_cases hf:xs.all G8=true
  ·refine Or.inr ?_
   have e2:Ac [.tup xs,.int wd]=.ok (.bl (yu (.tup xs) wd)):=if_pos hf
   rw [e2]
   have e:eO (fun _=>R.ok true) (oX (aM 1 mi (aa (rvz 0) fun x=>R.ok [])) (g2 eqF (gOf eS (aa (rvz 0) fun x=>R.ok [])) fun ρ=>rdV ρ 1)) xs [none,some (.val (.int wd))]=.ok (xs.map fun d=>.bl (AL d wd)):=by
    refine eB _ [some (.val (.int wd))] xs none fun d m=>⟨rfl,?_⟩
    have hd:=List.all_eq_true.1 hf d m
    simp only [oX,aM,aa,rd0,R.ok_bind,List.length_singleton,if_true,yy hd,asB]
    cases d <;> first|rfl|skip
    rename_i x
    show (if bh x=true then R.ok (D.bl ((x.length:Int)==wd)) else R.ok (.bl false))=R.ok (.bl (bh x && ((x.length:Int)==wd)))
    cases bh x <;> rfl
   show aq (aC _ _ [some (.val (.tup xs)),some (.val (.int wd))])=_
   have i2:gW [1] [some (.val (.tup xs)),some (.val (.int wd))]=[none,some (.val (.int wd))]:=rfl
   have t1:jA (fun x=>x=="tuple") (.tup xs)=.ok (.bl true):=rfl
   have t2:kn (.bl true)=.ok true:=rfl
   have t3:eS [.tup xs]=some (.int xs.length):=rfl
   simp only [aC,oIf,ud,gBn,aH,gB3,g3,cw,gOf,aa,cu,gm,rd0,R.ok_bind,R.ok_out,ce,i2,e,t1,t2,t3,cG,leD,Bool.not_true,Bool.false_eq_true,if_false]
   by_cases h1:1<=xs.length
   ·have h1':(1:Int)<=(xs.length:Int):=by omega
    by_cases h2:xs.length<=12
    ·have h2':(xs.length:Int)<=12:=by omega
     have h3:xs.length<=sizeLine:=Nat.le_trans h2 (by decide)
     simp [h1,h1',h2,h2',h3,asB,oNx,O.seq,lV,aq,yu]
     simp only [aC,cw,gOf,aa,cu,gm,aH,rd0,R.ok_bind,ce,i2,e,List.length_map,h3,if_true,lV,cG,R.ok_out,O.seq]
    ·have h2' : ¬ (xs.length:Int)<=12:=by omega
     simp [h1,h1',h2,h2',asB,oNx,O.seq,aq,yu]
   ·have h1' : ¬ (1:Int)<=(xs.length:Int):=by omega
    simp [h1,h1',asB,oNx,O.seq,aq,yu]
  ·exact Or.inl (if_neg hf)
noncomputable def sj (d:D) (wd m:Int):Bool:=match d with
 | .tup [a,b]=>inB a 0 (m - 1) && inB b 0 wd
 | _=>false
def rF:D->Bool
 | .exc _=>false
 | .dct _ _=>false
 | _=>true
noncomputable def pN:List D->R D
 | [.exc _,_,_]=>.no
 | [.dct _ _,_,_]=>.no
 | [.tup xs,.int wd,.int m]=>if xs.all rF=true then .ok (.bl (sj (.tup xs) wd m)) else .no
 | [d,.int wd,.int m]=>.ok (.bl false)
 | _=>.no
theorem kq {lo hi:Int} (h:rF d=true):Bz [d,.int lo,.int hi]=.ok (.bl (inB d lo hi)):=by
 cases d <;> first|rfl|(cases h;done)
noncomputable def nF (az:List D->R D):Ev->O:=(oIf (ud (gBn (aH kn (aH (jA (·=="tuple")) (rvz 0)))) (gB2 neF (gOf eS (aa (rvz 0) nlz)) (ciz 2))) (aC (cw (fun _=>R.ok (D.bl false))) oNx) oNx)
noncomputable def oa (az:List D->R D):Ev->O:=(cw (oX (aM 3 az (aa (g2 ixD (rvz 0) (ciz 0)) (aa (ciz 0) (aa (g2 vM (rvz 2) (ciz 1)) nlz)))) (aM 3 az (aa (g2 ixD (rvz 0) (ciz 1)) (aa (ciz 0) (aa (rvz 1) nlz))))))
noncomputable def fg (az:List D->R D):Ev->O:=(aC (nF az) (aC (oa az) oNx))
theorem uJ:∀ ds:List D,ds.length=3->pN ds=.no\/aq (fg Bz (ar 3 ds))=pN ds:=by
 intro ds hl
 unfold fg nF oa
 match ds,hl with
 | [d,l,h],_=>
  cases d <;> first|exact Or.inl rfl|skip
  all_goals (cases l <;> first|exact Or.inl rfl|skip)
  all_goals (cases h <;> first|exact Or.inl rfl|exact Or.inr rfl|skip)
  rename_i xs wd m hl
  by_cases hf:xs.all rF=true
  ·refine Or.inr ?_
   have e2:pN [.tup xs,.int wd,.int m]=.ok (.bl (sj (.tup xs) wd m)):=if_pos hf
   rw [e2]
   match xs,hf with
   | [],_=>rfl
   | [_],_=>rfl
   | [a,b],hf=>
    have ha:rF a=true:=List.all_eq_true.1 hf a (by simp)
    have hb:rF b=true:=List.all_eq_true.1 hf b (by simp)
    show aq ((oX (fun _=>Bz [a,.int 0,.int (m - 1)]) (fun _=>Bz [b,.int 0,.int wd]) []).out _ .rt |>.seq oNx)=_
    rw [oX,kq ha,kq hb]
    show aq ((if inB a 0 (m - 1)=true then R.ok (D.bl (inB b 0 wd)) else R.ok (D.bl false)).out _ .rt |>.seq oNx)=R.ok (D.bl (inB a 0 (m - 1) && inB b 0 wd))
    cases inB a 0 (m - 1) <;> rfl
   | a::b::c::l,_=>
    show aq (aC _ _ [some (.val (.tup (a::b::c::l))),some (.val (.int wd)),some (.val (.int m))])=_
    have t1:jA (fun x=>x=="tuple") (.tup (a::b::c::l))=.ok (.bl true):=rfl
    have t2:kn (.bl true)=.ok true:=rfl
    have t3:eS [.tup (a::b::c::l)]=some (.int (a::b::c::l).length):=rfl
    have t4:neF (.int (a::b::c::l).length) (.int 2)=some (.bl true):=by
     have:(((a::b::c::l).length:Int)==2)=false:=by simp;omega
     show some (D.bl (!(((a::b::c::l).length:Int)==2)))=_
     rw [this];rfl
    simp only [aC,oIf,ud,gBn,aH,gB2,g2,cw,gOf,aa,rd0,R.ok_bind,R.ok_out,t1,t2,t3,t4,cG,Bool.not_true,Bool.false_eq_true,if_false]
    rfl
  ·exact Or.inl (if_neg hf)
noncomputable def rM:D->Bool
 | .exc _=>false
 | .dct _ _=>false
 | .tup [w,r,p]=>rF w && (match r with|.exc _=>false|.dct _ _=>false|.tup xs=>xs.all G8|_=>true) && (match p with|.exc _=>false|.dct _ _=>false|.tup xs=>xs.all rF|_=>true)
 | _=>true
noncomputable def screen:D->Bool
 | .tup [a,r,p]=>match a with
  | .int wd=>inB (.int wd) 1 40 && yu r wd && (match r with|.tup rows=>sj p wd rows.length|_=>false)
  | _=>false
 | _=>false
noncomputable def mL:List D->R D
 | [d]=>if rM d=true then .ok (.bl (screen d)) else .no
 | _=>.no
noncomputable def lv (az aV bM:List D->R D):Ev->O:=(oIf (ud (gBn (aH kn (aH (jA (·=="tuple")) (rvz 0)))) (gB2 neF (gOf eS (aa (rvz 0) nlz)) (ciz 3))) (aC (cw (fun _=>R.ok (D.bl false))) oNx) oNx)
noncomputable def lB (az aV bM:List D->R D):Ev->O:=(eF 1 (g2 ixD (rvz 0) (ciz 0)))
noncomputable def kS (az aV bM:List D->R D):Ev->O:=(oIf (ud (gBn (aH kn (aM 3 az (aa (rvz 1) (aa (ciz 1) (aa (ciz 40) nlz)))))) (gBn (aH kn (aM 2 aV (aa (g2 ixD (rvz 0) (ciz 1)) (aa (rvz 1) nlz)))))) (aC (cw (fun _=>R.ok (D.bl false))) oNx) oNx)
noncomputable def la (az aV bM:List D->R D):Ev->O:=(cw (aM 3 bM (aa (g2 ixD (rvz 0) (ciz 2)) (aa (rvz 1) (aa (gOf eS (aa (g2 ixD (rvz 0) (ciz 1)) nlz)) nlz)))))
noncomputable def dM (az aV bM:List D->R D):Ev->O:=(aC (lv az aV bM) (aC (lB az aV bM) (aC (kS az aV bM) (aC (la az aV bM) oNx))))
theorem rT:∀ ds:List D,ds.length=1->mL ds=.no\/aq (dM Bz Ac pN (ar 2 ds))=mL ds:=by
 intro ds hl
 unfold dM lv lB kS la
 match ds,hl with
 | [d],_=>
  cases d <;> first|exact Or.inl rfl|exact Or.inr rfl|skip
  rename_i xs hl
  match xs with
  | []=>exact Or.inr rfl
  | [_]=>exact Or.inr rfl
  | [_,_]=>exact Or.inr rfl
  | a::b::c::e::l=>
   refine Or.inr ?_
   show aq (aC _ _ [some (.val (.tup (a::b::c::e::l))),none])=_
   have t1:jA (fun x=>x=="tuple") (.tup (a::b::c::e::l))=.ok (.bl true):=rfl
   have t2:kn (.bl true)=.ok true:=rfl
   have t3:eS [.tup (a::b::c::e::l)]=some (.int (a::b::c::e::l).length):=rfl
   have t4:neF (.int (a::b::c::e::l).length) (.int 3)=some (.bl true):=by
    have:(((a::b::c::e::l).length:Int)==3)=false:=by simp;omega
    show some (D.bl (!(((a::b::c::e::l).length:Int)==3)))=_
    rw [this];rfl
   simp only [aC,oIf,ud,gBn,aH,gB2,g2,cw,gOf,aa,rd0,R.ok_bind,R.ok_out,t1,t2,t3,t4,cG,Bool.not_true,Bool.false_eq_true,if_false]
   rfl
  | [a,r,p]=>
   by_cases hf:rM (.tup [a,r,p])=true
   ·refine Or.inr ?_
    have e2:mL [.tup [a,r,p]]=.ok (.bl (screen (.tup [a,r,p]))):=if_pos hf
    rw [e2]
    simp only [rM,Bool.and_eq_true] at hf
    obtain ⟨⟨ha,hr⟩,hp⟩:=hf
    show aq (aC _ _ [some (.val (.tup [a,r,p])),none])=_
    have t1:jA (fun x=>x=="tuple") (.tup [a,r,p])=.ok (.bl true):=rfl
    have t2:∀ k,kn (.bl k)=.ok k:=fun _=>rfl
    have t3:eS [.tup [a,r,p]]=some (.int 3):=rfl
    have t4:neF (.int 3) (.int 3)=some (.bl false):=rfl
    have x0:ixD (.tup [a,r,p]) (.int 0)=some a:=rfl
    have x1:ixD (.tup [a,r,p]) (.int 1)=some r:=rfl
    have x2:ixD (.tup [a,r,p]) (.int 2)=some p:=rfl
    have s1:([some (.val (.tup [a,r,p])),none]:Ev).set 1 (some (.val a))=[some (.val (.tup [a,r,p])),some (.val a)]:=rfl
    simp only [aC,oIf,eF,ud,gBn,aH,gB2,g2,cw,gOf,aa,rd0,rd1,R.ok_bind,R.ok_out,t1,t2,t3,t4,x0,x1,x2,s1,zy,Aq,cG,asB,oNx,O.seq,Bool.not_true,Bool.false_eq_true,if_false,kq ha]
    cases hi:inB a 1 40 with
    | false=>
     have:screen (.tup [a,r,p])=false:=by
      cases a <;> first|rfl|skip
      simp only [screen,hi,Bool.false_and]
     rw [this];rfl
    | true=>
     cases a <;> first|(cases hi;done)|skip
     rename_i i
     have e3:Ac [r,.int i]=.ok (.bl (yu r i)):=by
      cases r <;> first|rfl|(cases hr;done)|exact if_pos hr
     cases hq:yu r i with
     | false=>
      have:screen (.tup [.int i,r,p])=false:=by simp only [screen,hi,hq,Bool.and_false,Bool.false_and]
      rw [e3,hq,this];rfl
     | true=>
      cases r <;> first|(cases hq;done)|skip
      rename_i rows
      have e4:pN [p,.int i,.int rows.length]=.ok (.bl (sj p i rows.length)):=by
       cases p <;> first|rfl|(cases hp;done)|exact if_pos hp
      have e5:screen (.tup [.int i,.tup rows,p])=sj p i rows.length:=by simp only [screen,hi,hq,Bool.and_true,Bool.true_and]
      rw [e3,hq,e5]
      show aq ((pN [p,.int i,.int rows.length]).out _ .rt |>.seq _)=_
      rw [e4];rfl
   ·exact Or.inl (if_neg hf)
noncomputable def lM:List D->Option (List Int)
 | []=>some []
 | .int i::ds=>(lM ds).map (i::·)
 | _=>none
theorem qO:∀ {ds:List D} {ns:List Int},lM ds=some ns->ds=ns.map .int
 | [],ns,h=>by cases h;rfl
 | d::ds,ns,h=>by
  cases d <;> first|(cases h;done)|skip
  rename_i i
  cases q:lM ds with
  | none=>simp [lM,q] at h
  | some ms=>simp [lM,q] at h;subst h;rw [qO q];rfl
theorem oy:∀ ns:List Int,lM (ns.map .int)=some ns
 | []=>rfl
 | i::ns=>by simp [lM,oy ns]
noncomputable def cell (ns:List Int) (k:Nat):Int:=if k<ns.length then ns.getD k 0 else if ns.length=0 then 0 else ns.getD (k % ns.length) 0 * 31+k
theorem xo {ns:List Int} (h:k<ns.length):atI (ns.map D.int) (k:Int)=some (.int (ns.getD k 0)):=by
 have e:ixN (ns.map D.int).length (k:Int)=some k:=by
  rw [List.length_map]
  simp [ixN]
  try omega
 rw [atI,e]
 simp [List.getD,h]
theorem tfr {n:Nat}:∀ ds:List D,ds.length=n->F ds=.no\/F ds=F ds:=fun _ _=>.inr rfl
noncomputable def mr:Ev->O:=(oIf (gB2 ltD (rvz 1) (gOf eS (aa (rvz 0) nlz))) (aC (cw (g2 ixD (rvz 0) (rvz 1))) oNx) oNx)
noncomputable def ml:Ev->O:=(oIf (gB2 eqF (rvz 0) (cu (vJ nlz))) (aC (cw (ciz 0)) oNx) oNx)
noncomputable def mC:Ev->O:=(cw (g2 bR (g2 fH (g2 ixD (rvz 0) (g2 zT (rvz 1) (gOf eS (aa (rvz 0) nlz)))) (ciz 31)) (rvz 1)))
def dv:Ev->O:=(aC mr (aC ml (aC mC oNx)))
def CT:List D->R D:=fun ds=>aq (dv (ar 2 ds))
theorem zP {ns:List Int} {n:Nat}:CT [.lst fz (ns.map .int),.int n]=.ok (.int (cell ns n)):=by
 show aq (dv [some (.val (.lst fz (ns.map .int))),some (.val (.int n))])=_
 unfold dv mr ml mC
 have t3:eS [.lst fz (ns.map .int)]=some (.int ns.length):=by simp [eS]
 by_cases h1:n<ns.length
 ·have h1':(n:Int)<(ns.length:Int):=by omega
  have x1:ixD (.lst fz (ns.map .int)) (.int n)=some (.int (ns.getD n 0)):=xo h1
  simp only [aC,oIf,gB2,g2,cw,gOf,aa,rd0,rd1,R.ok_bind,R.ok_out,t3,x1,cG,ltD,asB,h1',decide_true,if_true,O.seq,aq,cell,h1]
 ·have h1' : ¬ (n:Int)<(ns.length:Int):=by omega
  cases ns with
  | nil=>rfl
  | cons a as=>
   have t4:eqF (.lst fz ((a::as).map .int)) (.lst false [])=some (.bl false):=rfl
   have h2:n % (a::as).length<(a::as).length:=Nat.mod_lt _ (by simp)
   have x1:ixD (.lst fz ((a::as).map .int)) (.int ((n % (a::as).length:Nat):Int))=some (.int ((a::as).getD (n % (a::as).length) 0)):=xo h2
   have m1:zT (.int n) (.int (a::as).length)=some (.int ((n % (a::as).length:Nat):Int)):=by
    have:(0:Int)<((a::as).length:Int):=by simp
    simp only [zT,this,if_true];rw [Int.natCast_emod]
   have m2:∀ z:Int,fH (.int z) (.int 31)=some (.int (z * 31)):=fun z=>if_pos (Or.inr (by decide))
   have z1:(0:Nat)<=sizeLine:=Nat.zero_le _
   have z2 : ¬ (a::as).length=0:=by simp
   simp only [aC,oIf,gB2,g2,cw,gOf,aa,cu,vJ,rd0,rd1,R.ok_bind,R.ok_out,t3,t4,x1,m1,m2,cG,ltD,bR,asB,h1',decide_false,Bool.false_eq_true,if_false,O.seq,oNx,aq,cell,h1,List.length_nil,z1,if_true,z2]
noncomputable def drawn (ns:List Int) (k:Nat):Int:=(cell ns k+6151 * ((k:Int)+1)) * 40692 % 2147483399
noncomputable def dk (ns:List Int) (k:Nat) (m:Int):Int:=(drawn ns k * drawn ns k+drawn ns k / 31) % 2147483629 % m
theorem bF (ns:List Int) (k:Nat) {m:Int} (h:0<m):0<=dk ns k m/\dk ns k m<m:=⟨Int.emod_nonneg _ (by omega),Int.emod_lt_of_pos _ h⟩
noncomputable def nN (cg:List D->R D):Ev->O:=(eF 3 (g2 zT (g2 fH (g2 bR (aM 2 cg (aa (rvz 0) (aa (rvz 1) nlz))) (g2 fH (ciz 6151) (g2 bR (rvz 1) (ciz 1)))) (ciz 40692)) (ciz 2147483399)))
noncomputable def oe (cg:List D->R D):Ev->O:=(cw (g2 zT (g2 zT (g2 bR (g2 fH (rvz 3) (rvz 3)) (g2 Dl (rvz 3) (ciz 31))) (ciz 2147483629)) (rvz 2)))
noncomputable def du (cg:List D->R D):Ev->O:=(aC (nN cg) (aC (oe cg) oNx))
def fD:List D->R D:=fun ds=>aq (du CT (ar 4 ds))
theorem cy {ns:List Int} {n:Nat} {m:Int} (hm:0<m):fD [.lst fz (ns.map .int),.int n,.int m]=.ok (.int (dk ns n m)):=by
 show aq (du CT [some (.val (.lst fz (ns.map .int))),some (.val (.int n)),some (.val (.int m)),none])=_
 unfold du nN oe
 have m1:∀ z:Int,fH (.int 6151) (.int z)=some (.int (6151 * z)):=fun z=>by show (if ((-(2 ^ 64):Int)<6151/\(6151:Int)<2 ^ 64)\/((-(2 ^ 64):Int)<z/\z<2 ^ 64) then some (D.int (6151 * z)) else none)=_;exact if_pos (Or.inl (by decide))
 have m2:∀ z:Int,fH (.int z) (.int 40692)=some (.int (z * 40692)):=fun z=>if_pos (Or.inr (by decide))
 have m3:∀ z:Int,zT (.int z) (.int 2147483399)=some (.int (z % 2147483399)):=fun z=>by show (if (0:Int)<2147483399 then some (D.int (z % 2147483399)) else none)=_;exact if_pos (by decide)
 have m4:∀ z:Int,zT (.int z) (.int 2147483629)=some (.int (z % 2147483629)):=fun z=>by show (if (0:Int)<2147483629 then some (D.int (z % 2147483629)) else none)=_;exact if_pos (by decide)
 have m5:∀ z:Int,zT (.int z) (.int m)=some (.int (z % m)):=fun z=>if_pos hm
 have m6:∀ z:Int,Dl (.int z) (.int 31)=some (.int (z / 31)):=fun z=>by show (if (0:Int)<31/\(31:Int)<1073741824 then some (D.int (z / 31)) else none)=_;exact if_pos (by decide)
 have m7:∀ i j:Int,bR (.int i) (.int j)=some (.int (i+j)):=fun _ _=>rfl
 have hd:0<=drawn ns n/\drawn ns n<2147483399:=⟨Int.emod_nonneg _ (by decide),Int.emod_lt_of_pos _ (by decide)⟩
 have m8:fH (.int (drawn ns n)) (.int (drawn ns n))=some (.int (drawn ns n * drawn ns n)):=if_pos (Or.inl (by omega))
 have s1:∀ v,([some (.val (.lst fz (ns.map .int))),some (.val (.int n)),some (.val (.int m)),none]:Ev).set 3 v=[some (.val (.lst fz (ns.map .int))),some (.val (.int n)),some (.val (.int m)),v]:=fun _=>rfl
 have q1:(cell ns n+6151 * ((n:Int)+1)) * 40692 % 2147483399=drawn ns n:=rfl
 simp only [aC,eF,cw,g2,zy,rd0,rd1,rd2,rd3,R.ok_bind,R.ok_out,zP,m1,m2,m3,m4,m5,m6,m7,cG,O.seq,s1,q1,m8,aq,dk]
noncomputable def mQ (C:Addr):List D->R D
 | [d]=>if rM d=true then (if screen d=true then .ok .non else .ex C) else .no
 | _=>.no
noncomputable def gP (cU:List D->R D) (bz:Addr):Ev->O:=(oIf (gBn (aH kn (aM 1 cU (aa (rvz 0) nlz)))) (aC (jM bz (aa (csz [116,104,105,115,32,105,115,32,110,111,32,115,99,114,101,101,110]) nlz)) oNx) oNx)
noncomputable def cN (cU:List D->R D) (bz:Addr):Ev->O:=(aC (gP cU bz) oNx)
theorem mI:∀ ds:List D,ds.length=1->mQ C ds=.no\/aq (cN mL C (ar 1 ds))=mQ C ds:=by
 intro ds hl
 unfold cN gP
 match ds,hl with
 | [d],_=>
  by_cases hf:rM d=true
  ·refine Or.inr ?_
   have e1:mL [d]=.ok (.bl (screen d)):=if_pos hf
   have e2:mQ C [d]=if screen d=true then .ok .non else .ex C:=if_pos hf
   rw [e2]
   show aq (aC _ _ [some (.val d)])=_
   have t2:∀ k,kn (.bl k)=.ok k:=fun _=>rfl
   simp only [aC,oIf,jM,gBn,aH,DK,rd0,R.ok_bind,R.ok_out,e1,t2]
   cases screen d <;> rfl
  ·exact Or.inl (if_neg hf)
theorem Fi {α:Type} (n:Nat) (x:α):(List.replicate n [x]).flatten=List.replicate n x:=by
 induction n with
 | zero=>rfl
 | succ n ih=>rw [List.replicate_succ,List.flatten_cons,ih];rfl
noncomputable def sgn (ns:List Int) (k:Nat):Nat:=([32,32,97,98,35]:List Nat).getD (dk ns k 5).toNat 0
theorem IR (ns:List Int) (k:Nat):ixD (.str [32,32,97,98,35]) (.int (dk ns k 5))=some (.str [sgn ns k]):=by
 have h:=bF ns k (m:=5) (by decide)
 unfold sgn
 generalize dk ns k 5=v at h
 have:v=0\/v=1\/v=2\/v=3\/v=4:=by omega
 rcases this with rfl|rfl|rfl|rfl|rfl <;> rfl
theorem Be (ns:List Int) (k:Nat):32<=sgn ns k/\sgn ns k<=126:=by
 have h:=bF ns k (m:=5) (by decide)
 unfold sgn
 generalize dk ns k 5=v at h
 have:v=0\/v=1\/v=2\/v=3\/v=4:=by omega
 rcases this with rfl|rfl|rfl|rfl|rfl <;> decide
noncomputable def Cw:Ev->O:=aC (eF 3 (g2 bR (rvz 3) (g2 ixD (fun x=>R.ok (D.str [32,32,97,98,35])) (aM 3 fD (aa (rvz 0) (aa (g2 bR (g2 bR (rvz 1) fun x=>R.ok (D.int 1)) fun ρ=>rdV ρ 4) (aa (fun x=>R.ok (D.int 5)) fun x=>R.ok []))))))) oNx
theorem xz (ns:List Int) (fz:Bool) (a:Nat) (W:Option Sl):∀ (ks:List Nat) (x:List Nat) (kk:Option Sl),x.length+ks.length<=sizeLine->
  ∃ kk',cH (kU 4) Cw (ks.map fun i=>D.int (0+(i:Nat))) [some (.val (.lst fz (ns.map .int))),some (.val (.int a)),W,some (.val (.str x)),kk,none]=.nx [some (.val (.lst fz (ns.map .int))),some (.val (.int a)),W,some (.val (.str (x++ks.map fun k=>sgn ns (a+1+k)))),kk',none]
 | [],x,kk,_=>⟨kk,by simp [cH]⟩
 | k::ks,x,kk,h=>by
  have h':(x++[sgn ns (a+1+k)]).length+ks.length<=sizeLine:=by simp at h ⊢;omega
  obtain ⟨kk',ih⟩:=xz ns fz a W ks (x++[sgn ns (a+1+k)]) (some (.val (.int (0+(k:Nat))))) h'
  refine ⟨kk',?_⟩
  have hx:x.length+1<=sizeLine:=by simp at h;omega
  have c1:((a:Int)+1+(0+(k:Int)))=((a+1+k:Nat):Int):=by omega
  have p5:∀ n:Nat,fD [.lst fz (ns.map .int),.int n,.int 5]=.ok (.int (dk ns n 5)):=fun n=>cy (by decide)
  have m7:∀ i j:Int,bR (.int i) (.int j)=some (.int (i+j)):=fun _ _=>rfl
  have m8:bR (.str x) (.str [sgn ns (a+1+k)])=some (.str (x++[sgn ns (a+1+k)])):=if_pos hx
  have hB:Cw [some (.val (.lst fz (ns.map .int))),some (.val (.int a)),W,some (.val (.str x)),some (.val (.int (0+(k:Nat)))),none]=.nx [some (.val (.lst fz (ns.map .int))),some (.val (.int a)),W,some (.val (.str (x++[sgn ns (a+1+k)]))),some (.val (.int (0+(k:Nat)))),none]:=by
   simp only [Cw,aC,eF,g2,Aq,rd0,rd1,rd3,rd4,R.ok_bind,m7,c1,p5,IR,m8,cG,R.ok_out,O.seq,oNx]
   rfl
  rw [List.map_cons,cH]
  show (match Cw [some (.val (.lst fz (ns.map .int))),some (.val (.int a)),W,some (.val (.str x)),some (.val (.int (0+(k:Nat)))),none] with
   | .nx ρ2=>cH (kU 4) Cw _ ρ2
   | .ct ρ2=>cH (kU 4) Cw _ ρ2
   | .bk ρ2=>O.nx ρ2
   | .rt d=>O.rt d
   | .re d ρ2=>.re d ρ2
   | .ex C ρ2=>O.ex C ρ2
   | .no=>O.no)=_
  rw [hB]
  simp only [List.map_cons]
  rw [ih,List.append_assoc]
  rfl
theorem Di {α:Type} (xs:List α) (l:Nat) (h:l<=xs.length):jT xs none (some (l:Int))=xs.take l:=by
 have h1:HT.sIx xs.length 0 none=0:=rfl
 have h2:HT.sIx xs.length xs.length (some (l:Int))=l:=by
  simp only [HT.sIx]
  first|omega|(split <;> omega)
 unfold jT
 rw [h1,h2]
 simp
noncomputable def yL (ns:List Int) (a wd:Nat):List Nat:=
 if dk ns (a+20) 2=0 then (List.range wd).map fun k=>sgn ns (a+1+k) else ((List.range wd).map fun k=>sgn ns (a+1+k)).take (dk ns a (wd+1)).toNat++List.replicate (wd - (dk ns a (wd+1)).toNat) 32
theorem nM (ns:List Int) (a wd:Nat):(yL ns a wd).length=wd:=by
 have h:=bF ns a (m:=(wd:Int)+1) (by omega)
 unfold yL
 split
 ·simp
 ·simp;omega
theorem pC (ns:List Int) (a wd:Nat):bh (yL ns a wd)=true:=by
 have hm:∀ c∈(List.range wd).map (fun k=>sgn ns (a+1+k)),32<=c/\c<=126:=by
  intro c hc
  obtain ⟨k,_,rfl⟩:=List.mem_map.1 hc
  exact Be ns _
 unfold bh
 rw [List.all_eq_true]
 intro c hc
 have:32<=c/\c<=126:=by
  unfold yL at hc
  split at hc
  ·exact hm c hc
  ·rcases List.mem_append.1 hc with q|q
   ·exact hm c (List.mem_of_mem_take q)
   ·have:=(List.mem_replicate.1 q).2;omega
 simp [this.1,this.2]
theorem Aa (h:wd<=100):cr [.int (wd:Int)]=.ok ((List.range wd).map fun i=>D.int (0+(i:Nat))):=by
 have e:cr [.int (wd:Int)]=if -(2 ^ 62)<=(wd:Int)/\(wd:Int)<2 ^ 62 then .ok ((List.range (wd:Int).toNat).map fun i=>D.int (0+(i:Nat))) else .no:=by simp only [cr]
 rw [e,if_pos (by constructor <;> omega),Int.toNat_natCast]
theorem J9 {ns:List Int} {a:Nat}:fD [.lst fz (ns.map .int),.int ((a+20:Nat):Int),.int 2]=.ok (.int (dk ns (a+20) 2)):=cy (by decide)
noncomputable def Kd (pk:List D->R D):Ev->O:=aC (eF 5 (aM 3 pk (aa (rvz 0) (aa (rvz 1) (aa (g2 bR (rvz 2) fun x=>R.ok (D.int 1)) fun x=>R.ok [])))))
 (aC (cw (gIf (gB2 eqF (aM 3 pk (aa (rvz 0) (aa (g2 bR (rvz 1) fun x=>R.ok (D.int 20)) (aa (fun x=>R.ok (D.int 2)) fun x=>R.ok [])))) fun x=>R.ok (D.int 0)) (rvz 3)
  (g2 bR (gSl (rvz 3) (fun x=>R.ok none) (iy fun ρ=>rdV ρ 5)) (g2 fH (fun x=>R.ok (D.str [32])) (g2 vM (rvz 2) fun ρ=>rdV ρ 5))))) oNx)
theorem zw {n:Nat} (h:n<=100):fH (.str [32]) (.int (n:Int))=some (.str (List.replicate n 32)):=by
 have hz:(100:Nat)<=sizeLine:=by decide
 have e:[32]=[32]:=rfl
 rw [e,<- Fi n 32]
 simp only [fH]
 rw [if_pos (by refine ⟨by omega,by omega,?_⟩;simp;omega),Int.toNat_natCast]
theorem Et (pk:List D->R D) (S:D) (a wd l:Nat) (z:Int) (x:List Nat) (kk:Option Sl) (h1:pk [S,.int a,.int ((wd:Int)+1)]=.ok (.int (l:Int))) (h2:pk [S,.int ((a:Int)+20),.int 2]=.ok (.int z)) (hx:x.length=wd) (hw:wd<=100) (hl:l<=wd) :
  Kd pk [some (.val S),some (.val (.int a)),some (.val (.int wd)),some (.val (.str x)),kk,none]=.rt (.str (if z=0 then x else x.take l++List.replicate (wd - l) 32)):=by
 have c1:(wd:Int) - (l:Int)=((wd - l:Nat):Int):=by omega
 have m1:fH (.str [32]) (.int ((wd - l:Nat):Int))=some (.str (List.replicate (wd - l) 32)):=zw (by omega)
 have m2:bR (.str (x.take l)) (.str (List.replicate (wd - l) 32))=some (.str (x.take l++List.replicate (wd - l) 32)):=vB (by have:=bE;simp;omega)
 have m3:=CW x l
 unfold Kd
 clear hx hw hl
 walk_at "run"
 by_cases hz:z=0
 ·simp only [hz,if_true,beq_self_eq_true,R.ok_out,KU]
 ·have:(z==0)=false:=by simp [hz]
  simp only [hz,this,if_false,Bool.false_eq_true,R.ok_out,KU]
def xX (am:List D->R D):Ev->O:=(eF 3 (csz []))
noncomputable def xN (am:List D->R D):Ev->O:=(aC (eF 3 (g2 bR (rvz 3) (g2 ixD (csz [32,32,97,98,35]) (aM 3 am (aa (rvz 0) (aa (g2 bR (g2 bR (rvz 1) (ciz 1)) (rvz 4)) (aa (ciz 5) nlz))))))) oNx)
noncomputable def xJ (am:List D->R D):Ev->O:=(sK (kU 4) (aH cr (aa (rvz 2) nlz)) (xN am))
noncomputable def yA (am:List D->R D):Ev->O:=(eF 5 (aM 3 am (aa (rvz 0) (aa (rvz 1) (aa (g2 bR (rvz 2) (ciz 1)) nlz)))))
noncomputable def yB (am:List D->R D):Ev->O:=(cw (gIf (gB2 eqF (aM 3 am (aa (rvz 0) (aa (g2 bR (rvz 1) (ciz 20)) (aa (ciz 2) nlz)))) (ciz 0)) (rvz 3) (g2 bR (gSl (rvz 3) (fun _=>R.ok none) (iy (rvz 5))) (g2 fH (csz [32]) (g2 vM (rvz 2) (rvz 5))))))
noncomputable def jj (am:List D->R D):Ev->O:=(aC (xX am) (aC (xJ am) (aC (yA am) (aC (yB am) oNx))))
def Dz:List D->R D:=fun ds=>aq (jj fD (ar 6 ds))
theorem xb {ns:List Int} {a:Nat} (hw3:wd<=100):Dz [.lst fz (ns.map .int),.int (a:Int),.int (wd:Int)]=.ok (.str (yL ns a wd)):=by
 show aq (aC (eF 3 (csz [])) (aC (sK (kU 4) (aH cr (aa (rvz 2) fun _=>R.ok [])) Cw) (Kd fD)) [some (.val (.lst fz (ns.map .int))),some (.val (.int a)),some (.val (.int wd)),none,none,none])=_
 obtain ⟨kk',hL⟩:=xz ns fz a (some (.val (.int wd))) (List.range wd) [] none (by have:=bE;simp;omega)
 have s2:sK (kU 4) (aH cr (aa (rvz 2) fun _=>R.ok [])) Cw [some (.val (.lst fz (ns.map .int))),some (.val (.int a)),some (.val (.int wd)),some (.val (.str [])),none,none]=.nx [some (.val (.lst fz (ns.map .int))),some (.val (.int a)),some (.val (.int wd)),some (.val (.str ([]++(List.range wd).map fun k=>sgn ns (a+1+k)))),kk',none]:=by
  rw [HQ,DV,zX,show ∀ i ρ,rvz i ρ=rdV ρ i from fun _ _=>rfl,rd2,R.ok_bind,R.ok_bind,R.ok_bind,Aa hw3,R.ok_out]
  exact hL
 have hp:=bF ns a (m:=(wd:Int)+1) (by omega)
 have s3:=Et fD (.lst fz (ns.map .int)) a wd (dk ns a ((wd:Int)+1)).toNat (dk ns (a+20) 2) ([]++(List.range wd).map fun k=>sgn ns (a+1+k)) kk'
  (by rw [Int.toNat_of_nonneg hp.1];exact cy (by omega)) (by exact J9) (by simp) hw3 (by omega)
 rw [Fu,Ju,R.ok_out,JW,Fu]
 show aq ((sK (kU 4) _ Cw [some (.val (.lst fz (ns.map .int))),some (.val (.int a)),some (.val (.int wd)),some (.val (.str [])),none,none]).seq _)=_
 rw [s2,JW,s3,Mj]
 unfold yL
 rw [List.nil_append]
noncomputable def uk (ns:List Int) (a wd m:Nat):List D:=(List.range m).map fun k=>.str (yL ns (a+30 * k) wd)
noncomputable def NM (ns:List Int) (a wd m:Nat):D:=.tup [.int wd,.tup (uk ns a wd m),.tup [.int (dk ns (a+400) m),.int (dk ns (a+401) (wd+1))]]
noncomputable def ka (aW am:List D->R D):Ev->O:=(eF 4 (gOf nP (aa (cu (gm (aH cr (aa (rvz 3) nlz)) [0,1,2] (fun _=>R.ok true) (aM 3 aW (aa (rvz 1) (aa (g2 bR (rvz 2) (g2 fH (ciz 30) (rvz 0))) (aa (rvz 3) nlz)))))) nlz)))
noncomputable def jx (aW am:List D->R D):Ev->O:=(cw (aH mkT (aa (rvz 2) (aa (rvz 4) (aa (aH mkT (aa (aM 3 am (aa (rvz 0) (aa (g2 bR (rvz 1) (ciz 400)) (aa (rvz 3) nlz)))) (aa (aM 3 am (aa (rvz 0) (aa (g2 bR (rvz 1) (ciz 401)) (aa (g2 bR (rvz 2) (ciz 1)) nlz)))) nlz))) nlz)))))
noncomputable def fC (aW am:List D->R D):Ev->O:=(aC (ka aW am) (aC (jx aW am) oNx))
def CZ:List D->R D:=fun ds=>aq (fC Dz fD (ar 5 ds))
theorem Bb {ns:List Int} {a m:Nat} (hw3:wd<=100) (hm:0<m) (hm3:m<=100):CZ [.lst fz (ns.map .int),.int (a:Int),.int (wd:Int),.int (m:Int)]=.ok (NM ns a wd m):=by
 have e:eO (fun _=>R.ok true) (aM 3 Dz (aa (rvz 1) (aa (g2 bR (rvz 2) (g2 fH (ciz 30) fun ρ=>rdV ρ 0)) (aa (rvz 3) fun _=>R.ok []))))
   ((List.range m).map fun (i:Nat)=>D.int (i:Int)) [none,some (.val (.lst fz (ns.map .int))),some (.val (.int a)),some (.val (.int wd))]=.ok (((List.range m).map fun (i:Nat)=>D.int (i:Int)).map fun d=>match d with|.int k=>.str (yL ns (a+30 * k.toNat) wd)|d=>d):=by
  refine eB _ _ _ none fun d hd=>⟨rfl,?_⟩
  obtain ⟨k,_,rfl⟩:=List.mem_map.1 hd
  have m1:fH (.int 30) (.int (k:Int))=some (.int ((30 * k:Nat):Int)):=by rw [DQ (by decide)];congr 2
  have m2:(a:Int)+((30 * k:Nat):Int)=((a+30 * k:Nat):Int):=by omega
  have m3:=xb (fz:=fz) (ns:=ns) (a:=a+30 * k) hw3
  walk_at "run"
  simp only [Int.toNat_natCast]
 show aq (aC _ _ [some (.val (.lst fz (ns.map .int))),some (.val (.int a)),some (.val (.int wd)),some (.val (.int m)),none])=_
 have i1:gW [0,1,2] [some (.val (.lst fz (ns.map .int))),some (.val (.int a)),some (.val (.int wd)),some (.val (.int m)),none]=[none,some (.val (.lst fz (ns.map .int))),some (.val (.int a)),some (.val (.int wd))]:=rfl
 have r1:cr [.int (m:Int)]=.ok ((List.range m).map fun (i:Nat)=>D.int (i:Int)):=qN (by omega)
 have z1:(((List.range m).map fun (i:Nat)=>D.int (i:Int)).map fun d=>match d with|.int k=>.str (yL ns (a+30 * k.toNat) wd)|d=>d)=uk ns a wd m:=by
  rw [List.map_map];unfold uk;refine List.map_congr_left fun k _=>?_;simp
 have z2:(uk ns a wd m).length<=sizeLine:=by have:=bE;unfold uk;simp;omega
 have p1:fD [.lst fz (ns.map .int),.int ((a:Int)+400),.int (m:Int)]=.ok (.int (dk ns (a+400) m)):=by have:=cy (fz:=fz) (ns:=ns) (n:=a+400) (m:=m) (by omega);exact this
 have p2:fD [.lst fz (ns.map .int),.int ((a:Int)+401),.int ((wd:Int)+1)]=.ok (.int (dk ns (a+401) (wd+1))):=by have:=cy (fz:=fz) (ns:=ns) (n:=a+401) (m:=(wd:Int)+1) (by omega);exact this
 have k1:∀ x:List D,nP [.lst false x]=some (.tup x):=fun _=>rfl
 have k2:∀ x y:D,mkT [x,y]=.ok (.tup [x,y]):=fun _ _=>m_t (by simp)
 have k3:∀ x y z:D,mkT [x,y,z]=.ok (.tup [x,y,z]):=fun _ _ _=>m_t (by simp)
 rw [z1] at e
 unfold ka jx
 clear hm hw3 hm3 z1
 walk_at "run"
 rfl
noncomputable def cl:Nat->D->Bool
 | 0,_=>false
 | _+1,.exc _=>false
 | _+1,.dct _ _=>false
 | n+1,.tup xs=>xs.all (cl n)
 | n+1,.lst _ xs=>xs.all (cl n)
 | _+1,_=>true
theorem qU {f:D->D->Option Bool}:∀ xs:List D,(∀ x∈xs,f x x=some true)->eqZ f xs xs=some (xs.map fun _=>true)
 | [],_=>rfl
 | x::xs,h=>by
  rw [eqZ,h x (List.mem_cons_self ..),qU xs fun y hy=>h y (List.mem_cons_of_mem _ hy)];rfl
theorem qb {α:Type}:∀ xs:List α,(xs.map fun _=>true).all id=true
 | []=>rfl
 | _::xs=>by rw [List.map_cons,List.all_cons,qb xs];rfl
theorem lO:∀ (n m:Nat) (d:D),n<=m->cl n d=true->eqD m d d=some true
 | 0,_,_,_,h=>by simp [cl] at h
 | n+1,0,_,h,_=>by omega
 | n+1,m+1,d,hm,h=>by
  cases d <;> first|(simp [cl] at h;done)|(simp [eqD];done)|skip
  ·rename_i xs
   simp only [cl,List.all_eq_true] at h
   have:=qU (f:=eqD m) xs fun x hx=>lO n m x (by omega) (h x hx)
   simp only [eqD,this,Option.map_some,qb,beq_self_eq_true,Bool.and_true]
  ·rename_i fz xs
   simp only [cl,List.all_eq_true] at h
   have:=qU (f:=eqD m) xs fun x hx=>lO n m x (by omega) (h x hx)
   simp only [eqD,if_true,this,Option.map_some,qb]
theorem As (h:cl 10 d=true):neF d d=some (.bl false):=by
 unfold neF;rw [lO 10 40 d (by omega) h];rfl
theorem C2 (h:cl 10 d=true):eqF d d=some (.bl true):=by
 unfold eqF;rw [lO 10 40 d (by omega) h];rfl
noncomputable def LW:List Nat->D->D->Option D
 | [],_,v=>some v
 | k::ks,.tup xs,v=>match xs[k]? with
  | some x=>if xs.length<=1000 then (LW ks x v).map fun y=>.tup (xs.take k++[y]++xs.drop (k+1)) else none
  | none=>none
 | _,_,_=>none
noncomputable def HY:List D->Option (List Nat)
 | []=>some []
 | .int i::ds=>if 0<=i then (HY ds).map (i.toNat::·) else none
 | _::_=>none
noncomputable def LX (n:Nat):List D->R D
 | [d,.tup p,v]=>match HY p with
  | some ks=>if ks.length<n/\n<=500 then ofO (LW ks d v) else .no
  | none=>.no
 | _=>.no
noncomputable def pt:Nat->D->Bool
 | 0,_=>false
 | _+1,.int _=>true
 | _+1,.str x=>decide (x.length<=900)
 | n+1,.tup xs=>xs.all (pt n) && decide (xs.length<=900)
 | _+1,_=>false
noncomputable def L0:Nat->D->Bool
 | 0,_=>true
 | _+1,.exc _=>false
 | _+1,.dct _ _=>false
 | _+1,.str x=>decide (x.length<=1000)
 | n+1,.tup xs=>xs.all (L0 n)
 | n+1,.lst _ xs=>xs.all (L0 n)
 | _+1,_=>true
noncomputable def sk (aO:List D->R D):Ev->O:=(cw (oX (g2 eqF (gOf eS (aa (rvz 0) nlz)) (ciz 2)) (oX (g2 eqF (g2 ixD (rvz 0) (ciz 0)) (csz [115,97,121])) (oX (aM 1 aO (aa (g2 ixD (rvz 0) (ciz 1)) nlz)) (g3 leD leD (ciz 1) (gOf eS (aa (g2 ixD (rvz 0) (ciz 1)) nlz)) (ciz 40))))))
def kK (aO:List D->R D):Ev->O:=(aC (sk aO) oNx)
noncomputable def xD (az:List D->R D):Ev->O:=(oIf (ud (gB2 neF (gOf eS (aa (rvz 0) nlz)) (ciz 3)) (gB2 neF (g2 ixD (rvz 0) (ciz 0)) (csz [103,111]))) (aC (cw (fun _=>R.ok (D.bl false))) oNx) oNx)
noncomputable def xc (az:List D->R D):Ev->O:=(cw (oX (aM 3 az (aa (g2 ixD (rvz 0) (ciz 1)) (aa (ciz 0) (aa (g2 vM (ciz 12) (ciz 1)) nlz)))) (aM 3 az (aa (g2 ixD (rvz 0) (ciz 2)) (aa (ciz 0) (aa (ciz 40) nlz))))))
noncomputable def mG (az:List D->R D):Ev->O:=(aC (xD az) (aC (xc az) oNx))
noncomputable def nh (dL fZ:List D->R D):Ev->O:=(oIf (gBn (aH kn (aH (jA (·=="tuple")) (rvz 0)))) (aC (cw (fun _=>R.ok (D.bl false))) oNx) oNx)
noncomputable def nO (dL fZ:List D->R D):Ev->O:=(cw (gOr (aM 1 dL (aa (rvz 0) nlz)) (gOr (aM 1 fZ (aa (rvz 0) nlz)) (g2 eqF (rvz 0) (aH mkT (aa (csz [119,105,112,101]) nlz))))))
noncomputable def hV (dL fZ:List D->R D):Ev->O:=(aC (nh dL fZ) (aC (nO dL fZ) oNx))
noncomputable def iY (de:List D->R D) (bp:Addr):Ev->O:=(oIf (gBn (aH kn (aM 1 de (aa (rvz 0) nlz)))) (aC (jM bp (aa (csz [116,104,105,115,32,105,115,32,110,111,32,111,114,100,101,114]) nlz)) oNx) oNx)
noncomputable def eP (de:List D->R D) (bp:Addr):Ev->O:=(aC (iY de bp) oNx)
noncomputable def dI:Ev->O:=(eF 3 (g2 ixD (g2 ixD (rvz 0) (ciz 2)) (ciz 0)))
noncomputable def dF:Ev->O:=(eF 4 (g2 bR (g2 bR (gSl (g2 ixD (rvz 0) (ciz 1)) (fun _=>R.ok none) (iy (rvz 3))) (aH mkT (aa (rvz 1) nlz))) (gSl (g2 ixD (rvz 0) (ciz 1)) (iy (g2 bR (rvz 3) (ciz 1))) (fun _=>R.ok none))))
noncomputable def dG:Ev->O:=(cw (aH mkT (aa (g2 ixD (rvz 0) (ciz 0)) (aa (rvz 4) (aa (aH mkT (aa (rvz 3) (aa (rvz 2) nlz))) nlz)))))
def cD:Ev->O:=(aC dI (aC dF (aC dG oNx)))
noncomputable def kQ (ak:List D->R D) (bn:Addr):Ev->O:=(eF 2 (g2 ixD (g2 ixD (rvz 0) (ciz 1)) (g2 ixD (g2 ixD (rvz 0) (ciz 2)) (ciz 0))))
noncomputable def kR (ak:List D->R D) (bn:Addr):Ev->O:=(eF 3 (g2 ixD (g2 ixD (rvz 0) (ciz 2)) (ciz 1)))
noncomputable def kX (ak:List D->R D) (bn:Addr):Ev->O:=(eF 4 (g2 bR (rvz 3) (gOf eS (aa (rvz 1) nlz))))
noncomputable def kP (ak:List D->R D) (bn:Addr):Ev->O:=(oIf (gB2 gtD (rvz 4) (g2 ixD (rvz 0) (ciz 0))) (aC (jM bn (aa (csz [116,104,101,32,116,101,120,116,32,105,115,32,119,105,100,101,114,32,116,104,97,110,32,119,104,97,116,32,105,115,32,108,101,102,116,32,111,102,32,116,104,101,32,114,111,119]) nlz)) oNx) oNx)
noncomputable def kZ (ak:List D->R D) (bn:Addr):Ev->O:=(cw (aM 3 ak (aa (rvz 0) (aa (g2 bR (g2 bR (gSl (rvz 2) (fun _=>R.ok none) (iy (rvz 3))) (rvz 1)) (gSl (rvz 2) (iy (rvz 4)) (fun _=>R.ok none))) (aa (rvz 4) nlz)))))
noncomputable def gh (ak:List D->R D) (bn:Addr):Ev->O:=(aC (kQ ak bn) (aC (kR ak bn) (aC (kX ak bn) (aC (kP ak bn) (aC (kZ ak bn) oNx)))))
noncomputable def nK (bn:Addr):Ev->O:=(oIf (ud (gB2 geD (rvz 1) (gOf eS (aa (g2 ixD (rvz 0) (ciz 1)) nlz))) (gB2 gtD (rvz 2) (g2 ixD (rvz 0) (ciz 0)))) (aC (jM bn (aa (csz [116,104,101,32,115,99,114,101,101,110,32,100,111,101,115,32,110,111,116,32,104,97,118,101,32,116,104,105,115,32,112,108,97,99,101]) nlz)) oNx) oNx)
noncomputable def mq (bn:Addr):Ev->O:=(cw (aH mkT (aa (g2 ixD (rvz 0) (ciz 0)) (aa (g2 ixD (rvz 0) (ciz 1)) (aa (aH mkT (aa (rvz 1) (aa (rvz 2) nlz))) nlz)))))
def iz (bn:Addr):Ev->O:=(aC (nK bn) (aC (mq bn) oNx))
noncomputable def jN (ak:List D->R D):Ev->O:=(eF 1 (g2 ixD (g2 ixD (rvz 0) (ciz 1)) (g2 ixD (g2 ixD (rvz 0) (ciz 2)) (ciz 0))))
noncomputable def jy (ak:List D->R D):Ev->O:=(eF 2 (g2 ixD (g2 ixD (rvz 0) (ciz 2)) (ciz 1)))
noncomputable def jC (ak:List D->R D):Ev->O:=(cw (aM 3 ak (aa (rvz 0) (aa (sv "str" iq (gSl (rvz 1) (fun _=>R.ok none) (iy (rvz 2))) (aa (g2 ixD (rvz 0) (ciz 0)) nlz)) (aa (rvz 2) nlz)))))
noncomputable def fF (ak:List D->R D):Ev->O:=(aC (jN ak) (aC (jy ak) (aC (jC ak) oNx)))
noncomputable def dl (bO ca bD:List D->R D):Ev->O:=(oIf (gB2 eqF (g2 ixD (rvz 1) (ciz 0)) (csz [115,97,121])) (aC (cw (aM 2 bO (aa (rvz 0) (aa (g2 ixD (rvz 1) (ciz 1)) nlz)))) oNx) oNx)
noncomputable def dm (bO ca bD:List D->R D):Ev->O:=(oIf (gB2 eqF (g2 ixD (rvz 1) (ciz 0)) (csz [103,111])) (aC (cw (aM 3 ca (aa (rvz 0) (aa (g2 ixD (rvz 1) (ciz 1)) (aa (g2 ixD (rvz 1) (ciz 2)) nlz))))) oNx) oNx)
noncomputable def dq (bO ca bD:List D->R D):Ev->O:=(cw (aM 1 bD (aa (rvz 0) nlz)))
noncomputable def eI (bO ca bD:List D->R D):Ev->O:=(aC (dl bO ca bD) (aC (dm bO ca bD) (aC (dq bO ca bD) oNx)))
noncomputable def scr (wd:Nat) (rows:List (List Nat)) (r c:Nat):D:=.tup [.int (wd:Int),.tup (rows.map .str),.tup [.int (r:Int),.int (c:Int)]]
structure SOk (wd:Nat) (rows:List (List Nat)) (r c:Nat):Prop where
 w:wd<=100
 c:c<=wd
 r:r<rows.length
 m:rows.length<=100
 l:∀ x∈rows,x.length=wd
theorem Cq (rows:List (List Nat)) (r:Nat) (x:List Nat) (h:r<rows.length):(rows.map D.str).take r++[D.str x]++(rows.map D.str).drop (r+1)=(rows.set r x).map D.str:=by
 rw [List.set_eq_take_append_cons_drop,if_pos h]
 simp [List.map_take,List.map_drop]
noncomputable def gU (bw:List D->R D) (bp:Addr):Ev->O:=(oIf (gBn (aH kn (aH (jA (·=="list")) (rvz 0)))) (aC (jM bp (aa (csz [116,104,105,115,32,105,115,32,110,111,32,108,105,115,116,32,111,102,32,111,114,100,101,114,115]) nlz)) oNx) oNx)
noncomputable def eN (bw:List D->R D) (bp:Addr):Ev->O:=(aC (oW (aM 1 bw (aa (rvz 1) nlz))) oNx)
noncomputable def ib (bw:List D->R D) (bp:Addr):Ev->O:=(sK (kU 1) (aH ce (rvz 0)) (eN bw bp))
noncomputable def dA (bw:List D->R D) (bp:Addr):Ev->O:=(aC (gU bw bp) (aC (ib bw bp) oNx))
noncomputable def nX (av aj aS:List D->R D):Ev->O:=(oW (aM 1 av (aa (rvz 0) nlz)))
noncomputable def nQ (av aj aS:List D->R D):Ev->O:=(oW (aM 1 aj (aa (rvz 1) nlz)))
def nG (av aj aS:List D->R D):Ev->O:=(eF 2 (rvz 0))
noncomputable def ji (av aj aS:List D->R D):Ev->O:=(aC (eF 2 (aM 2 aS (aa (rvz 2) (aa (rvz 3) nlz)))) oNx)
noncomputable def mK (av aj aS:List D->R D):Ev->O:=(sK (kU 3) (aH ce (rvz 1)) (ji av aj aS))
def mO (av aj aS:List D->R D):Ev->O:=(cw (rvz 2))
noncomputable def hX (av aj aS:List D->R D):Ev->O:=(aC (nX av aj aS) (aC (nQ av aj aS) (aC (nG av aj aS) (aC (mK av aj aS) (aC (mO av aj aS) oNx)))))
noncomputable def qr:Ev->O:=(oIf (gB2 eqF (g2 ixD (rvz 0) (ciz 0)) (csz [115,97,121])) (aC (cw (gOf eS (aa (g2 ixD (rvz 0) (ciz 1)) nlz))) oNx) oNx)
noncomputable def qL:Ev->O:=(oIf (gB2 eqF (g2 ixD (rvz 0) (ciz 0)) (csz [103,111])) (aC (cw (ciz 2)) oNx) oNx)
def qo:Ev->O:=(cw (ciz 1))
def fy:Ev->O:=(aC qr (aC qL (aC qo oNx)))
noncomputable def AG (aj bd:List D->R D):Ev->O:=(oW (aM 1 aj (aa (rvz 0) nlz)))
noncomputable def Bq (aj bd:List D->R D):Ev->O:=(cw (gOf GH (aa (cu (gm (aH ce (rvz 0)) [] (fun _=>R.ok true) (aM 1 bd (aa (rvz 0) nlz)))) nlz)))
noncomputable def qR (aj bd:List D->R D):Ev->O:=(aC (AG aj bd) (aC (Bq aj bd) oNx))
noncomputable def fP:Ev->O:=(oIf (gB2 neF (g2 ixD (rvz 0) (ciz 0)) (g2 ixD (rvz 1) (ciz 0))) (aC (cw (fun _=>R.ok D.non)) oNx) oNx)
noncomputable def fI:Ev->O:=(oIf (gB2 neF (g2 ixD (rvz 0) (ciz 0)) (csz [115,97,121])) (aC (cw (rvz 1)) oNx) oNx)
noncomputable def fM:Ev->O:=(eF 2 (g2 bR (g2 ixD (rvz 0) (ciz 1)) (g2 ixD (rvz 1) (ciz 1))))
noncomputable def fJ:Ev->O:=(cw (gIf (gB2 leD (gOf eS (aa (rvz 2) nlz)) (ciz 40)) (aH mkT (aa (csz [115,97,121]) (aa (rvz 2) nlz))) (fun _=>R.ok D.non)))
def cZ:Ev->O:=(aC fP (aC fI (aC fM (aC fJ oNx))))
noncomputable def lu (aj aL:List D->R D):Ev->O:=(oW (aM 1 aj (aa (rvz 0) nlz)))
def kY (aj aL:List D->R D):Ev->O:=(BD 1 (vJ nlz))
noncomputable def fb (aj aL:List D->R D):Ev->O:=(aC (C4 1 3 (gIf (gB2 gtD (gOf eS (aa (rvz 1) nlz)) (ciz 0)) (aM 2 aL (aa (g2 ixD (rvz 1) (aH CA (ciz 1))) (aa (rvz 2) nlz))) (fun _=>R.ok D.non))) (aC (oIf (gB2 isF (rvz 3) (fun _=>R.ok D.non)) (aC (EX 1 (rvz 2)) oNx) (aC (CN 1 (aH CA (ciz 1)) (rvz 3)) oNx)) oNx))
noncomputable def lf (aj aL:List D->R D):Ev->O:=(sK (kU 2) (aH ce (rvz 0)) (fb aj aL))
def kO (aj aL:List D->R D):Ev->O:=(cw (rvz 1))
noncomputable def gw (aj aL:List D->R D):Ev->O:=(aC (lu aj aL) (aC (kY aj aL) (aC (lf aj aL) (BB 1 (aC (kO aj aL) oNx)))))
inductive Od where
 | say (x:List Nat)
 | go (r c:Nat)
 | wipe
noncomputable def oD:Od->D
 | .say x=>.tup [.str [115,97,121],.str x]
 | .go r c=>.tup [.str [103,111],.int (r:Int),.int (c:Int)]
 | .wipe=>.tup [.str [119,105,112,101]]
noncomputable def okO:Od->Bool
 | .say x=>bh x && (decide (1<=x.length) && decide (x.length<=40))
 | .go r c=>decide (r<=11) && decide (c<=40)
 | .wipe=>true
def bQ:Od->Nat
 | .say x=>x.length
 | .go _ _=>2
 | .wipe=>1
noncomputable def jk:Od->Od->Option Od
 | .say x,.say y=>if x.length+y.length<=40 then some (.say (x++y)) else none
 | .go _ _,.go r c=>some (.go r c)
 | .wipe,.wipe=>some .wipe
 | _,_=>none
def rz:Od->Nat
 | .say x=>x.length
 | _=>0
def jD:Option Od->D
 | some o=>oD o
 | none=>.non
noncomputable def eA (acc:List Od) (o:Od):List Od:=match acc.getLast? with
 | none=>[o]
 | some l=>match jk l o with
  | some j=>acc.dropLast++[j]
  | none=>acc++[o]
theorem sV (o:Od):eA [] o=[o]:=rfl
theorem kF {acc:List Od} {l o j:Od} (h:jk l o=some j):eA (acc++[l]) o=acc++[j]:=by simp [eA,h]
theorem oG {acc:List Od} {l o:Od} (h:jk l o=none):eA (acc++[l]) o=acc++[l]++[o]:=by simp [eA,h]
def shO (os:List Od):List Od:=os.foldl eA []
theorem E4 (l:List Od):l=[]\/∃ l' b,l=l'++[b]:=by
 rcases List.eq_nil_or_concat l with h|⟨l',b,h⟩
 ·exact .inl h
 ·exact .inr ⟨l',b,by rw [h,List.concat_eq_append]⟩
theorem LC (o:Od):fl 10 (oD o)=true:=by cases o <;> rfl
def IP (os:List Od):Nat:=(os.map rz).sum
theorem Dt {l o j:Od} (h:jk l o=some j):rz j=rz l+rz o/\bQ j<=bQ l+bQ o:=by
 cases l <;> cases o <;> simp [jk] at h
 ·obtain ⟨_,rfl⟩:=h;simp [rz,bQ]
 ·subst h;simp [rz,bQ]
 ·subst h;simp [rz,bQ]
theorem xF (acc:List Od) (o:Od):IP (eA acc o)=IP acc+rz o/\(eA acc o).length<=acc.length+1/\((eA acc o).map bQ).sum<=(acc.map bQ).sum+bQ o:=by
 rcases E4 acc with rfl|⟨a,l,rfl⟩
 ·rw [sV];simp [IP]
 ·cases hj:jk l o with
  | none=>rw [oG hj];simp [IP,List.sum_append];omega
  | some j=>
   obtain ⟨h1,h2⟩:=Dt hj
   rw [kF hj]
   simp [IP,List.sum_append]
   omega
theorem Fm {p:Addr} {fs:List (Nat×Fd)} (h:ρ[i]?=some (some (.obj true C p fs))):yb C ρ i=.ok (p,fs):=by
 unfold yb;rw [h];exact if_pos rfl
noncomputable def M1 (sts tk:List D):List (Nat×Fd):=[(0,.own sts),(1,.own tk)]
def st3 (a b:D) (c:Int):D:=.tup [a,b,.int c]
noncomputable def NJ:List (Nat×Fd)->Option (List D×List D)
 | [(0,.own a),(1,.own b)]=>some (a,b)
 | _=>none
noncomputable def t3D:D->Option (D×D×Int)
 | .tup [a,b,.int c]=>some (a,b,c)
 | _=>none
def KG (sts:List D):Option (D×D×Int):=sts.getLast?.bind t3D
section
variable {Cs Co Cr Cb Cp:Addr}
noncomputable def Nl (k:List D->List D->D->D->Int->List D->RM):MF:=fun fs ds=>match NJ fs with
 | none=>.no
 | some (sts,tk)=>(match KG sts with
  | none=>.no
  | some (a,b,c)=>k sts tk a b c ds)
end
noncomputable def nH (am cj:List D->R D):Ev->O:=(cw (aM 4 cj (aa (rvz 0) (aa (g2 bR (rvz 1) (ciz 5)) (aa (g2 bR (ciz 1) (aM 3 am (aa (rvz 0) (aa (rvz 1) (aa (ciz 8) nlz))))) (aa (g2 bR (ciz 1) (aM 3 am (aa (rvz 0) (aa (g2 bR (rvz 1) (ciz 1)) (aa (ciz 4) nlz))))) nlz))))))
def iA (am cj:List D->R D):Ev->O:=(aC (nH am cj) oNx)
theorem GG (a b c:D):ixD (.tup [a,b,c]) (.int 0)=some a:=rfl
theorem FD (a b c:D):ixD (.tup [a,b,c]) (.int 1)=some b:=rfl
theorem Mo (a b c:D):ixD (.tup [a,b,c]) (.int 2)=some c:=rfl
theorem t3 (x y z:D):mkT [x,y,z]=.ok (.tup [x,y,z]):=m_t (by simp)
theorem t2 (x y:D):mkT [x,y]=.ok (.tup [x,y]):=m_t (by simp)
theorem tl_ (x:List D):nP [.lst false x]=some (.tup x):=rfl
theorem JE (f:Bool) (x:List D):ce (.lst f x)=.ok x:=rfl
theorem ng (i:Int):CA (.int i)=.ok (.int (-i)):=rfl
theorem EO {α:Type} (xs:List α) (a b:Nat):jT xs (some (a:Int)) (some ((a+b:Nat):Int))=(xs.drop a).take b:=by
 unfold jT
 rw [HT.sIx_nat,HT.sIx_nat]
 by_cases h:a<=xs.length
 ·rw [Nat.min_eq_left h]
  by_cases h2:a+b<=xs.length
  ·rw [Nat.min_eq_left h2,Nat.add_sub_cancel_left]
  ·rw [Nat.min_eq_right (by omega),List.take_of_length_le (by simp),List.take_of_length_le (by simp;omega)]
 ·rw [Nat.min_eq_right (show xs.length<=a by omega),List.drop_length,List.take_nil,List.drop_of_length_le (by omega),List.take_nil]
theorem vF (h:screen d=true):rM d=true:=by
 cases d <;> first|(cases h;done)|skip
 rename_i xs
 match xs,h with
 | [],h=>cases h
 | [_],h=>cases h
 | [_,_],h=>cases h
 | a::b::c::e::l,h=>cases h
 | [a,r,p],h=>
  cases a <;> first|(cases h;done)|skip
  rename_i i
  cases r <;> first|(simp [screen,yu] at h;done)|skip
  rename_i rows
  simp only [screen,Bool.and_eq_true] at h
  obtain ⟨⟨h1,h2⟩,h3⟩:=h
  simp only [yu,Bool.and_eq_true,List.all_eq_true] at h2
  simp only [inB,Bool.and_eq_true,decide_eq_true_eq] at h1
  simp only [rM,Bool.and_eq_true,List.all_eq_true]
  refine ⟨⟨rfl,fun r hr=>?_⟩,?_⟩
  ·have q:=h2.2 r hr
   cases r <;> first|rfl|(cases q;done)|skip
   rename_i x
   simp only [AL,Bool.and_eq_true,beq_iff_eq] at q
   simp only [G8,decide_eq_true_eq]
   have:=bE
   omega
  ·cases p <;> first|(cases h3;done)|skip
   rename_i ps
   match ps,h3 with
   | [a,b],h3=>
    simp only [sj,Bool.and_eq_true] at h3
    show [a,b].all rF=true
    rw [List.all_eq_true]
    intro x hx
    rcases List.mem_cons.1 hx with rfl|hx
    ·cases x <;> first|rfl|exact absurd h3.1 (by simp [inB])
    ·rcases List.mem_cons.1 hx with rfl|hx
     ·cases x <;> first|rfl|exact absurd h3.2 (by simp [inB])
     ·cases hx
theorem tf (h:screen d=true):mQ C [d]=.ok .non:=by
 show (if rM d=true then (if screen d=true then R.ok D.non else .ex C) else .no)=_
 rw [if_pos (vF h),if_pos h]
noncomputable def Az (b m r:Int):Bool:=decide (0<=b) && decide (b<=r - 1) && (decide (1<=m) && decide (m<=r - b))
theorem Ga {P:Prop} (h:∀ wd rows p,d=.tup [.int wd,.tup rows,p]->P) (h2:(∀ wd rows p,d ≠ .tup [.int wd,.tup rows,p])->P):P:=by
 by_cases e:∃ wd rows p,d=.tup [.int wd,.tup rows,p]
 ·obtain ⟨wd,rows,p,e⟩:=e;exact h wd rows p e
 ·exact h2 fun wd rows p q=>e ⟨wd,rows,p,q⟩
noncomputable def HF (l w:Nat):D->D
 | .str x=>.str ((x.drop l).take w)
 | d=>d
noncomputable def KB:List D->R D
 | [.tup [.int wd,.tup rows,p],.int t,.int l,.int h,.int w]=>if screen (.tup [.int wd,.tup rows,p])=true/\Az t h rows.length=true/\Az l w wd=true then .ok (.tup [.int w,.tup (((rows.drop t.toNat).take h.toNat).map (HF l.toNat w.toNat)),.tup [.int 0,.int 0]]) else .no
 | _=>.no
theorem mF {wd:Int} {p:D} (h:screen (.tup [.int wd,.tup rows,p])=true):(1<=wd/\wd<=40)/\(1<=rows.length/\rows.length<=12)/\(∀ r∈rows,∃ x,r=.str x/\bh x=true/\(x.length:Int)=wd)/\sj p wd rows.length=true:=by
 simp only [screen,Bool.and_eq_true] at h
 obtain ⟨⟨h1,h2⟩,h3⟩:=h
 simp only [yu,Bool.and_eq_true,List.all_eq_true,decide_eq_true_eq] at h2
 simp only [inB,Bool.and_eq_true,decide_eq_true_eq] at h1
 refine ⟨h1,h2.1,fun r hr=>?_,h3⟩
 have q:=h2.2 r hr
 cases r <;> first|(cases q;done)|skip
 rename_i x
 simp only [AL,Bool.and_eq_true,beq_iff_eq] at q
 exact ⟨x,rfl,q.1,q.2⟩
def wS (ns:List Int) (a:Nat):Nat:=(1+dk ns a 8).toNat
def mS (ns:List Int) (a:Nat):Nat:=(1+dk ns (a+1) 4).toNat
theorem qa (ns:List Int) (a:Nat):1<=wS ns a/\wS ns a<=8/\(1:Int)+dk ns a 8=(wS ns a:Int):=by
 have h:=bF ns a (m:=8) (by decide)
 unfold wS;omega
theorem qx (ns:List Int) (a:Nat):1<=mS ns a/\mS ns a<=4/\(1:Int)+dk ns (a+1) 4=(mS ns a:Int):=by
 have h:=bF ns (a+1) (m:=4) (by decide)
 unfold mS;omega
noncomputable def pl (ns:List Int) (a:Nat) (wd m:Nat):D:=.tup [.int (dk ns (a+400) m),.int (dk ns (a+401) (wd+1))]
noncomputable def scS (ns:List Int) (a:Nat):D:=.tup [.int (wS ns a:Int),.tup (uk ns (a+5) (wS ns a) (mS ns a)),pl ns (a+5) (wS ns a) (mS ns a)]
def ya:List D->R D:=fun ds=>aq (iA fD CZ (ar 2 ds))
theorem Br {ns:List Int} {a:Nat}:ya [.lst fz (ns.map .int),.int (a:Int)]=.ok (scS ns a):=by
 show aq (aC _ _ [some (.val (.lst fz (ns.map .int))),some (.val (.int a))])=_
 have p1:fD [.lst fz (ns.map .int),.int (a:Int),.int 8]=.ok (.int (dk ns a 8)):=cy (by decide)
 have p2:fD [.lst fz (ns.map .int),.int ((a:Int)+1),.int 4]=.ok (.int (dk ns (a+1) 4)):=cy (n:=a+1) (by decide)
 obtain ⟨w1,w2,w3⟩:=qa ns a
 obtain ⟨m1,m2,m3⟩:=qx ns a
 have s1:CZ [.lst fz (ns.map .int),.int ((a:Int)+5),.int (wS ns a:Int),.int (mS ns a:Int)]=.ok (scS ns a):=Bb (a:=a+5) (by omega) (by omega) (by omega)
 unfold nH
 clear w1 w2 m1 m2
 walk_at "run"
abbrev St:=Nat×List (List Nat)×Nat×Nat
def sD (s:St):D:=scr s.1 s.2.1 s.2.2.1 s.2.2.2
noncomputable def dQ:St->Od->Option St
 | (wd,rows,r,c),.say x=>if wd<c+x.length then none else some (wd,rows.set r ((rows.getD r []).take c++x++(rows.getD r []).drop (c+x.length)),r,c+x.length)
 | (wd,rows,r,c),.go n k=>if rows.length<=n\/wd<k then none else some (wd,rows,n,k)
 | (wd,rows,r,c),.wipe=>some (wd,rows.set r ((rows.getD r []).take c++List.replicate (wd - c) 32),r,c)
structure GS (s:St):Prop where
 w1:1<=s.1
 w2:s.1<=40
 m:s.2.1.length<=12
 r:s.2.2.1<s.2.1.length
 c:s.2.2.2<=s.1
 l:∀ x∈s.2.1,x.length=s.1/\bh x=true
theorem GS.screen {s:St} (h:GS s):screen (sD s)=true:=by
 obtain ⟨wd,rows,r,c⟩:=s
 have h1:=h.w1
 have h2:=h.w2
 have h3:=h.m
 have h4:=h.r
 have h5:=h.c
 have h6:=h.l
 dsimp only at h1 h2 h3 h4 h5 h6
 have hf:yu (.tup (rows.map .str)) (wd:Int)=true:=by
  simp only [yu,List.length_map,Bool.and_eq_true,decide_eq_true_eq,List.all_eq_true]
  refine ⟨⟨by omega,by omega⟩,fun d hd=>?_⟩
  obtain ⟨x,hx,rfl⟩:=List.mem_map.1 hd
  obtain ⟨q1,q2⟩:=h6 x hx
  simp [AL,q1,q2]
 simp only [sD,scr,Q.screen,hf,sj,inB,List.length_map,Bool.and_eq_true,decide_eq_true_eq]
 refine ⟨⟨⟨by omega,by omega⟩,trivial⟩,?_⟩
 omega
noncomputable def Hr (C:Addr):Option St->R D
 | some s=>.ok (sD s)
 | none=>.ex C
theorem iE {x y:List Nat} (h1:bh x=true) (h2:bh y=true):bh (x++y)=true:=by
 simp only [bh,List.all_append,Bool.and_eq_true] at *;exact ⟨h1,h2⟩
theorem jL {x y:List Nat} (h:bh x=true) (hs:∀ c∈y,c∈x):bh y=true:=by
 simp only [bh,List.all_eq_true] at h ⊢;exact fun c hc=>h c (hs c hc)
theorem wV {α:Type} {l:List α} {a x:α} (h:x∈l.set i a):x=a\/x∈l:=by
 rcases List.mem_or_eq_of_mem_set h with h|h
 ·exact .inr h
 ·exact .inl h
theorem lZ {rows:List (List Nat)} {r:Nat} (h:r<rows.length):rows.getD r []∈rows:=by
 rw [List.getD_eq_getElem?_getD,List.getElem?_eq_getElem h];exact List.getElem_mem h
theorem zf {s s':St} {o:Od} (h:GS s) (ho:okO o=true) (e:dQ s o=some s'):GS s':=by
 obtain ⟨wd,rows,r,c⟩:=s
 have h1:=h.w1
 have h2:=h.w2
 have h3:=h.m
 have h4:=h.r
 have h5:=h.c
 have h6:=h.l
 dsimp only at h1 h2 h3 h4 h5 h6
 obtain ⟨g1,g2⟩:=h6 _ (lZ h4)
 cases o with
 | say x=>
  simp only [okO,Bool.and_eq_true,decide_eq_true_eq] at ho
  by_cases hn:wd<c+x.length
  ·simp only [dQ,hn,if_true] at e;cases e
  ·simp only [dQ,hn,if_false] at e
   cases e
   refine ⟨h1,h2,by simpa using h3,by simpa using h4,by dsimp only;omega,fun y hy=>?_⟩
   rcases wV hy with rfl|hy
   ·refine ⟨by simp only [List.length_append,List.length_take,List.length_drop,List.length_replicate];omega,iE (iE (jL g2 fun c hc=>List.mem_of_mem_take hc) ho.1) (jL g2 fun c hc=>List.mem_of_mem_drop hc)⟩
   ·exact h6 y hy
 | go n k=>
  by_cases hn:rows.length<=n\/wd<k
  ·simp only [dQ,hn,if_true] at e;cases e
  ·simp only [dQ,hn,if_false] at e
   cases e
   exact ⟨h1,h2,h3,by dsimp only;omega,by dsimp only;omega,h6⟩
 | wipe=>
  simp only [dQ] at e
  cases e
  refine ⟨h1,h2,by simpa using h3,by simpa using h4,h5,fun y hy=>?_⟩
  rcases wV hy with rfl|hy
  ·refine ⟨by simp only [List.length_append,List.length_take,List.length_drop,List.length_replicate];omega,iE (jL g2 fun c hc=>List.mem_of_mem_take hc) ?_⟩
   simp only [bh,List.all_eq_true]
   intro z hz
   rw [(List.mem_replicate.1 hz).2];decide
  ·exact h6 y hy
noncomputable def rn (a:Option St) (os:List Od):Option St:=os.foldl (fun a o=>a.bind fun s=>dQ s o) a
theorem AO (a:Option St) (o:Od) (os:List Od):rn a (o::os)=rn (a.bind fun s=>dQ s o) os:=rfl
theorem D5 (a:Option St) (os ps:List Od):rn a (os++ps)=rn (rn a os) ps:=List.foldl_append ..
theorem uQ:∀ os:List Od,rn none os=none
 | []=>rfl
 | _::os=>uQ os
theorem H9:∀ (os:List Od) {s s':St},GS s->(∀ o∈os,okO o=true)->rn (some s) os=some s'->GS s'
 | [],s,s',h,_,e=>by cases e;exact h
 | o::os,s,s',h,ho,e=>by
  rw [AO,Option.bind_some] at e
  cases q:dQ s o with
  | none=>rw [q,uQ] at e;cases e
  | some s1=>
   rw [q] at e
   exact H9 os (zf h (ho o (List.mem_cons_self ..)) q) (fun p hp=>ho p (List.mem_cons_of_mem _ hp)) e
theorem Hd (ns:List Int) (a:Nat):∃ s:St,GS s/\scS ns a=sD s/\s.1=wS ns a/\s.2.1.length=mS ns a:=by
 obtain ⟨w1,w2,_⟩:=qa ns a
 obtain ⟨m1,m2,_⟩:=qx ns a
 have p1:=bF ns (a+5+400) (m:=(mS ns a:Int)) (by omega)
 have p2:=bF ns (a+5+401) (m:=(wS ns a:Int)+1) (by omega)
 refine ⟨(wS ns a,(List.range (mS ns a)).map (fun k=>yL ns (a+5+30 * k) (wS ns a)),(dk ns (a+5+400) (mS ns a)).toNat,(dk ns (a+5+401) (wS ns a+1)).toNat),⟨w1,by show wS ns a<=40;omega,by simp;omega,by simp;omega,by show (dk ns (a+5+401) (wS ns a+1)).toNat<=wS ns a;omega,fun x hx=>?_⟩,?_,rfl,by simp⟩
 ·obtain ⟨k,_,rfl⟩:=List.mem_map.1 hx
  exact ⟨nM ns _ _,pC ns _ _⟩
 ·show D.tup _=D.tup _
  have e1:((dk ns (a+5+400) (mS ns a)).toNat:Int)=dk ns (a+5+400) (mS ns a):=by omega
  have e2:((dk ns (a+5+401) (wS ns a+1)).toNat:Int)=dk ns (a+5+401) (wS ns a+1):=by omega
  unfold pl uk
  dsimp only
  rw [e1,e2,List.map_map]
  rfl
def MX (os:List Od):Int:=((os.map bQ).sum:Nat)
section
variable {Cs Co Cr Cp:Addr}
inductive Dd where
 | scroll (z:Int)
 | ord (o:Od)
end
section
variable {MD Cs Co Cr:Addr}
theorem BG {n:Nat} {F:MF} {p:Addr} {fs:List (Nat×Fd)} (ho:ρ[i]?=some (some (.obj true C p fs))) (ha:gl ρ=.ok ds) (hl:ds.length=n) (hF:F fs ds=.ok d fs'):jW C i n F gl ρ=.re d (ρ.set i (some (.obj true C p fs'))):=by
 unfold jW JM
 rw [ho]
 dsimp only
 rw [if_pos rfl,R.ok_out,ha,R.ok_out]
 dsimp only
 rw [if_pos hl,hF];rfl
end
noncomputable def mR (av aO:List D->R D):Ev->O:=(oW (aM 1 av (aa (rvz 0) nlz)))
noncomputable def nV (av aO:List D->R D):Ev->O:=(oIf (ud (gBn (aH kn (aH (jA (·=="list")) (rvz 1)))) (gB2 gtD (gOf eS (aa (rvz 1) nlz)) (gOf eS (aa (g2 ixD (rvz 0) (ciz 1)) nlz)))) (aC (cw (fun _=>R.ok (D.bl false))) oNx) oNx)
noncomputable def ou (av aO:List D->R D):Ev->O:=(cw (gOf DF (aa (cu (gm (aH ce (rvz 1)) [0] (fun _=>R.ok true) (oX (aM 1 aO (aa (rvz 0) nlz)) (g2 leD (gOf eS (aa (rvz 0) nlz)) (g2 ixD (rvz 1) (ciz 0)))))) nlz)))
noncomputable def ie (av aO:List D->R D):Ev->O:=(aC (mR av aO) (aC (nV av aO) (aC (ou av aO) oNx)))
theorem el:∀ xs:List (List Nat),dZ (xs.map .str)=some xs
 | []=>rfl
 | x::xs=>by simp [dZ,el xs]
theorem jK:∀ {ds:List D} {xs:List (List Nat)},dZ ds=some xs->ds=xs.map .str
 | [],xs,h=>by cases h;rfl
 | d::ds,xs,h=>by
  cases d <;> first|(cases h;done)|skip
  rename_i x
  cases q:dZ ds with
  | none=>simp [dZ,q] at h
  | some ys=>simp [dZ,q] at h;subst h;rw [jK q];rfl
noncomputable def txt (m:Nat) (x:List Nat):Bool:=bh x && decide (x.length<=m)
theorem rL {x:List Nat} (h:x.length<=1000):mi [.str x]=.ok (.bl (bh x)):=if_pos (Nat.le_trans h bE)
theorem CP (m:Nat) (hm:m<=1000) (mm:Int) (hmm:mm=m) {xs:List (List Nat)} (h:∀ x∈xs,bh x=true/\x.length<=m) (tl:Ev) (g:Ev->R D) (hg:∀ a,g (a::tl)=.ok (.int mm)):eO (fun _=>R.ok true) (oX (aM 1 mi (aa (rvz 0) nlz)) (g2 leD (gOf eS (aa (rvz 0) nlz)) g)) (xs.map .str) (none::tl)=.ok ((xs.map D.str).map fun _=>.bl true):=by
 refine eB _ _ _ none fun d hd=>⟨rfl,?_⟩
 obtain ⟨x,hx,rfl⟩:=List.mem_map.1 hd
 obtain ⟨h1,h2⟩:=h x hx
 have p1:=rL (x:=x) (by omega)
 rw [h1] at p1
 have q1:decide ((x.length:Int)<=mm)=true:=by simp;omega
 have hg':=hg (some (.val (.str x)))
 clear hd hx h1 h2 h hg hmm hm
 walk_at "run"
theorem Jz (f:Bool) (ds:List D):DF [.lst f (ds.map fun _=>D.bl true)]=some (.bl true):=by
 have:=lV (fun _=>true) f ds
 rw [this];simp
theorem IT {x y:List D} (h:x.length+y.length<=sizeLine):bR (.lst false x) (.lst false y)=some (.lst false (x++y)):=by simp only [bR];rw [if_pos h]
noncomputable def bi (n wd:Nat) (xs:List (List Nat)):Bool:=decide (xs.length<=n) && xs.all (txt wd)
noncomputable def arF:List D->R D
 | [.tup [.int wd,.tup rows,p],.lst _ ds]=>match dZ ds with
  | some xs=>if screen (.tup [.int wd,.tup rows,p])=true/\bi rows.length wd.toNat xs=true then .ok (.bl true) else .no
  | none=>.no
 | _=>.no
theorem ur:∀ ds:List D,ds.length=2->arF ds=.no\/aq (ie (mQ C) mi (ar 2 ds))=arF ds:=by
 intro ds hl
 match ds,hl with
 | [d,l],_=>
  refine Ga (d:=d) (fun wd rows p e=>?_) fun e=>Or.inl ?_
  ·subst e
   cases l <;> first|exact Or.inl rfl|skip
   rename_i f ds hl
   cases hs:dZ ds with
   | none=>exact Or.inl (by simp only [arF,hs])
   | some xs=>
    by_cases hc:screen (.tup [.int wd,.tup rows,p])=true/\bi rows.length wd.toNat xs=true
    ·refine Or.inr ?_
     have e2:arF [.tup [.int wd,.tup rows,p],.lst f ds]=.ok (.bl true):=by simp only [arF,hs,hc,and_self,if_true]
     rw [e2]
     have:=jK hs
     subst this
     obtain ⟨hsc,hf⟩:=hc
     have c1:=tf (C:=C) hsc
     obtain ⟨⟨w1,w2⟩,⟨n1,n2⟩,hr,_⟩:=mF hsc
     simp only [bi,txt,Bool.and_eq_true,decide_eq_true_eq,List.all_eq_true] at hf
     obtain ⟨hf1,hf2⟩:=hf
     have cmp:=CP wd.toNat (by omega) wd (by omega) hf2 [some (.val (.tup [.int wd,.tup rows,p]))] (g2 ixD (rvz 1) (ciz 0)) (fun _=>rfl)
     have lb:=bE
     have z:((xs.map D.str).map fun _=>D.bl true).length<=sizeLine:=by simp;omega
     have al:=Jz false (xs.map D.str)
     have i1:∀ (d:D) (v:Option Sl),gW [0] [some (.val d),v]=[none,some (.val d)]:=fun _ _=>rfl
     have q1:decide ((rows.length:Int)<((xs.map D.str).length:Int))=false:=by simp;omega
     have y1:jA (fun x=>x=="list") (.lst f (xs.map .str))=.ok (.bl true):=rfl
     have l1:=JE f (xs.map D.str)
     have x1:=FD (.int wd) (.tup rows) p
     show aq (aC _ _ [some (.val (.tup [.int wd,.tup rows,p])),some (.val (.lst f (xs.map .str)))])=_
     unfold mR nV ou
     clear hs e2 hsc hf1 hf2 w1 w2 n1 n2 hr lb
     walk_at "run"
    ·exact Or.inl (by simp only [arF,hs];exact if_neg hc)
  ·unfold arF
   split
   ·rename_i q;cases q;exact absurd rfl (e _ _ _)
   ·rfl
theorem jr (c:Nat) (x:D) (xs:List D):bH c (x::xs)=.tup [.int (c:Int),x]::bH (c+1) xs:=by
 unfold bH
 rw [List.length_cons,List.range_succ_eq_map,List.map_cons,List.map_map]
 refine congrArg (_::·) (List.map_congr_left fun i _=>?_)
 simp only [Function.comp,List.getD_cons_succ]
 congr 2
 congr 1
 congr 1
 omega
theorem lw (c:Nat):bH c []=[]:=rfl
noncomputable def lr (rows:List D) (wd:Nat):Prop:=∀ r∈rows,∃ x,r=D.str x/\x.length=wd/\bh x=true
theorem ni {x y:List Nat} (h1:bh x=true) (h2:bh y=true):bh (x++y)=true:=by
 simp only [bh,List.all_append,Bool.and_eq_true] at *;exact ⟨h1,h2⟩
theorem xY {x:List Nat} (n:Nat) (h:bh x=true):bh (x.take n)=true:=by
 simp only [bh,List.all_eq_true] at *;exact fun c hc=>h c (List.mem_of_mem_take hc)
theorem yU {x:List Nat} (n:Nat) (h:bh x=true):bh (x.drop n)=true:=by
 simp only [bh,List.all_eq_true] at *;exact fun c hc=>h c (List.mem_of_mem_drop hc)
theorem Cd {t:Nat} (h:lr rows wd) (ht:t<rows.length):∃ x,rows.getD t .non=D.str x/\x.length=wd/\bh x=true:=by
 refine h _ ?_
 rw [List.getD_eq_getElem?_getD,List.getElem?_eq_getElem ht]
 exact List.getElem_mem ht
theorem Cv {α:Type} (x:List α) (n:Nat):jT x (some (n:Int)) none=x.drop n:=by
 unfold jT
 rw [HT.sIx_nat,HT.sIx_none]
 by_cases h:n<=x.length
 ·rw [Nat.min_eq_left h,List.take_of_length_le (by simp)]
 ·rw [Nat.min_eq_right (by omega),List.drop_length,List.take_nil,List.drop_of_length_le (by omega)]
theorem D1 {α:Type} (x:List α) (n:Nat):jT x none (some (n:Int))=x.take n:=by
 unfold jT
 rw [HT.sIx_nat,HT.sIx_none,List.drop_zero,Nat.sub_zero]
 by_cases h:n<=x.length
 ·rw [Nat.min_eq_left h]
 ·rw [Nat.min_eq_right (by omega),List.take_of_length_le (by omega),List.take_of_length_le (by omega)]
theorem A3 {p:D} (h:screen (.tup [.int (wd:Int),.tup rows,p])=true):lr rows wd:=by
 obtain ⟨_,_,hr,_⟩:=mF h
 intro r m
 obtain ⟨x,rfl,a,b⟩:=hr r m
 exact ⟨x,rfl,by omega,a⟩
noncomputable def jw (dj:List D->R D) (bz:Addr):Ev->O:=(oIf (gBn (aH kn (aM 2 dj (aa (rvz 0) (aa (rvz 1) nlz))))) (aC (jM bz (aa (csz [116,104,101,115,101,32,97,114,101,32,110,111,32,114,111,119,115,32,116,104,97,116,32,116,104,101,32,115,99,114,101,101,110,32,99,97,110,32,115,104,111,119]) nlz)) oNx) oNx)
noncomputable def fB (dj:List D->R D) (bz:Addr):Ev->O:=(aC (jw dj bz) oNx)
def lA:Ev->O:=(eF 2 (g2 ixD (rvz 0) (ciz 0)))
noncomputable def kM:Ev->O:=(eF 3 (g2 vM (gOf eS (aa (g2 ixD (rvz 0) (ciz 1)) nlz)) (gOf eS (aa (rvz 1) nlz))))
noncomputable def lm:Ev->O:=(cw (g2 bR (cu (gm (aH ce (rvz 1)) [2] (fun _=>R.ok true) (sv "str" iq (rvz 0) (aa (rvz 1) nlz)))) (g2 fH (cu (vJ (aa (g2 fH (csz [32]) (rvz 2)) nlz))) (rvz 3))))
def gy:Ev->O:=(aC lA (aC kM (aC lm oNx)))
noncomputable def gX (aw ax:List D->R D):Ev->O:=(oW (aM 2 aw (aa (rvz 0) (aa (rvz 1) nlz))))
def gO (aw ax:List D->R D):Ev->O:=(BD 2 (vJ nlz))
noncomputable def cW (aw ax:List D->R D):Ev->O:=(aC (eF 5 (g2 ixD (g2 ixD (rvz 0) (ciz 1)) (rvz 3))) (aC (JR 2 (cu (gm (aH cr (aa (g2 ixD (rvz 0) (ciz 0)) nlz)) [3,4,5] (gB2 neF (g2 ixD (rvz 3) (rvz 0)) (g2 ixD (rvz 2) (rvz 0))) (aH mkT (aa (rvz 1) (aa (rvz 0) nlz)))))) oNx))
noncomputable def gZ (aw ax:List D->R D):Ev->O:=(sK (vT [3,4]) (aH qG (aM 2 ax (aa (rvz 0) (aa (rvz 1) nlz)))) (cW aw ax))
def hW (aw ax:List D->R D):Ev->O:=(cw (rvz 2))
noncomputable def dB (aw ax:List D->R D):Ev->O:=(aC (gX aw ax) (aC (gO aw ax) (aC (gZ aw ax) (BB 2 (aC (hW aw ax) oNx)))))
theorem zE {gt:Ev->R Bool} (p:D->Bool) (h:D->D) (tl:Ev) (ds:List D) (a:Option Sl) (H:∀ d∈ds,gt (some (.val d)::tl)=.ok (p d)/\ge (some (.val d)::tl)=.ok (h d)):eO gt ge ds (a::tl)=.ok ((ds.filter p).map h):=
 mw p h tl ds a fun d m=>⟨(H d m).1,fun _=>(H d m).2⟩
noncomputable def crF:List D->R D
 | [.tup [.int wd,.tup rows,p],.lst _ ds]=>match dZ ds with
  | some xs=>if screen (.tup [.int wd,.tup rows,p])=true/\bi rows.length wd.toNat xs=true then .ok .non else .no
  | none=>.no
 | _=>.no
theorem rg:∀ ds:List D,ds.length=2->crF ds=.no\/aq (fB arF C (ar 2 ds))=crF ds:=by
 intro ds hl
 match ds,hl with
 | [d,l],_=>
  refine Ga (d:=d) (fun wd rows p e=>?_) fun e=>Or.inl ?_
  ·subst e
   cases l <;> first|exact Or.inl rfl|skip
   rename_i f ds hl
   cases hs:dZ ds with
   | none=>exact Or.inl (by simp only [crF,hs])
   | some xs=>
    by_cases hc:screen (.tup [.int wd,.tup rows,p])=true/\bi rows.length wd.toNat xs=true
    ·refine Or.inr ?_
     have e1:crF [.tup [.int wd,.tup rows,p],.lst f ds]=.ok .non:=by simp only [crF,hs];exact if_pos hc
     have e2:arF [.tup [.int wd,.tup rows,p],.lst f ds]=.ok (.bl true):=by simp only [arF,hs];exact if_pos hc
     rw [e1]
     show aq (aC _ _ [some (.val (.tup [.int wd,.tup rows,p])),some (.val (.lst f ds))])=_
     unfold jw
     clear hl hs hc e1
     walk_at "run"
     all_goals rfl
    ·exact Or.inl (by simp only [crF,hs];exact if_neg hc)
  ·unfold crF
   split
   ·rename_i q;cases q;exact absurd rfl (e _ _ _)
   ·rfl
noncomputable def wD (wd:Nat) (x:List Nat):List Nat:=x++List.replicate (wd - x.length) 32
noncomputable def cX (n wd:Nat) (xs:List (List Nat)):List D:=xs.map (fun x=>.str (wD wd x))++List.replicate (n - xs.length) (.str (List.replicate wd 32))
noncomputable def frF:List D->R D
 | [.tup [.int wd,.tup rows,_],.lst _ ds]=>match dZ ds with
  | some xs=>if (0<=wd/\wd<=100)/\rows.length<=100/\bi rows.length wd.toNat xs=true then .ok (.lst false (cX rows.length wd.toNat xs)) else .no
  | none=>.no
 | _=>.no
theorem rN:∀ ds:List D,ds.length=2->frF ds=.no\/aq (gy (ar 4 ds))=frF ds:=by
 intro ds hl
 match ds,hl with
 | [d,l],_=>
  refine Ga (d:=d) (fun wd rows p e=>?_) fun e=>Or.inl ?_
  ·subst e
   cases l <;> first|exact Or.inl rfl|skip
   rename_i f ds hl
   cases hs:dZ ds with
   | none=>exact Or.inl (by simp only [frF,hs])
   | some xs=>
    by_cases hc:(0<=wd/\wd<=100)/\rows.length<=100/\bi rows.length wd.toNat xs=true
    ·refine Or.inr ?_
     have e1:frF [.tup [.int wd,.tup rows,p],.lst f ds]=.ok (.lst false (cX rows.length wd.toNat xs)):=by simp only [frF,hs];exact if_pos hc
     rw [e1]
     have hds:=jK hs
     subst hds
     obtain ⟨⟨w0,w1⟩,n1,hf⟩:=hc
     obtain ⟨wd,rfl⟩:=Int.eq_ofNat_of_zero_le w0
     simp only [Int.toNat_natCast] at hf ⊢
     simp only [bi,txt,Bool.and_eq_true,decide_eq_true_eq,List.all_eq_true] at hf
     have lb:=bE
     show aq (aC _ _ [some (.val (.tup [.int wd,.tup rows,p])),some (.val (.lst f (xs.map .str))),none,none])=_
     have x0:=GG
     have x1:=FD
     have k1:((rows.length:Int) - ((xs.map D.str).length:Int))=((rows.length - xs.length:Nat):Int):=by rw [List.length_map];omega
     have m1:fH (.str [32]) (.int (wd:Int))=some (.str (List.replicate wd 32)):=Fs (by omega)
     have m2:fH (.lst false [.str (List.replicate wd 32)]) (.int ((rows.length - xs.length:Nat):Int))=some (.lst false (List.replicate (rows.length - xs.length) (.str (List.replicate wd 32)))):=HE (by omega)
     have i2:gW [2] [some (.val (.tup [.int wd,.tup rows,p])),some (.val (.lst f (xs.map .str))),some (.val (.int (wd:Int))),some (.val (.int ((rows.length - xs.length:Nat):Int)))]=[none,some (.val (.int (wd:Int)))]:=rfl
     have e:eO (fun _=>R.ok true) (sv "str" iq (rvz 0) (aa (rvz 1) nlz)) (xs.map .str) [none,some (.val (.int (wd:Int)))]=.ok (xs.map fun x=>.str (wD wd x)):=by
      have:=eB (gt:=fun _=>R.ok true) (ge:=sv "str" iq (rvz 0) (aa (rvz 1) nlz)) (fun d=>match d with|.str x=>.str (wD wd x)|d=>d) [some (.val (.int (wd:Int)))] (xs.map .str) none fun d hd=>⟨rfl,by
       obtain ⟨x,hx,rfl⟩:=List.mem_map.1 hd
       have j:iq (.str x) [.int (wd:Int)]=some (.str (wD wd x)):=by
        simp only [iq,wD,Int.toNat_natCast]
        rw [if_pos (by omega)]
       clear hl hs e1 hd hx hf
       walk_at "run"
       all_goals rfl⟩
      rw [this,List.map_map];rfl
     have il:=JE
     have z1:(xs.map fun x=>D.str (wD wd x)).length<=sizeLine:=by simp;omega
     have z2:(1:Nat)<=sizeLine:=by omega
     have a1:bR (.lst false (xs.map fun x=>.str (wD wd x))) (.lst false (List.replicate (rows.length - xs.length) (.str (List.replicate wd 32))))=some (.lst false (cX rows.length wd xs)):=IT (by simp;omega)
     unfold lA kM lm
     clear hl hs e1 hf w0 w1 n1 lb
     walk_at "run"
    ·exact Or.inl (by simp only [frF,hs];exact if_neg hc)
  ·unfold frF
   split
   ·rename_i q;cases q;exact absurd rfl (e _ _ _)
   ·rfl
noncomputable def dn (k wd:Nat) (x y:List Nat):List D:=((List.range wd).filter fun c=>!(x.getD c 0==y.getD c 0)).map fun (c:Nat)=>.tup [.int (k:Int),.int (c:Int)]
def uB:D->List Nat
 | .str x=>x
 | _=>[]
noncomputable def cK (wd:Nat) (rows:List D):Nat->List D->List D
 | _,[]=>[]
 | k,y::ys=>dn k wd (uB (rows.getD k .non)) (uB y)++cK wd rows (k+1) ys
theorem nW (k wd:Nat) (x y:List Nat):(dn k wd x y).length<=wd:=by
 unfold dn
 rw [List.length_map]
 exact Nat.le_trans (List.length_filter_le ..) (by simp)
noncomputable def usF:List D->R D
 | [.tup [.int wd,.tup rows,p],.lst _ ds]=>match dZ ds with
  | some xs=>if screen (.tup [.int wd,.tup rows,p])=true/\bi rows.length wd.toNat xs=true then .ok (.lst false (cK wd.toNat rows 0 (cX rows.length wd.toNat xs))) else .no
  | none=>.no
 | _=>.no
theorem pK {F1 F2:List D->R D} {rows:List D} {wd:Nat} (hw:wd<=40) (hr:lr rows wd) (p:D) (x1:Option Sl):∀ (ys:List D) (k:Nat) (x3 x4 x5:Option Sl) (acc:List D),k+ys.length<=rows.length->lr ys wd->acc.length+40 * ys.length<=1000->∃ y3 y4 y5,cH (vT [3,4]) (cW F1 F2) (bH k ys) [some (.val (.tup [.int (wd:Int),.tup rows,p])),x1,some (.own acc),x3,x4,x5]
  = .nx [some (.val (.tup [.int (wd:Int),.tup rows,p])),x1,some (.own (acc++cK wd rows k ys)),y3,y4,y5]
 | [],k,x3,x4,x5,acc,_,_,_=>⟨x3,x4,x5,by rw [lw,pY,cK,List.append_nil]⟩
 | y::ys,k,x3,x4,x5,acc,hk,hy,ha=>by
  obtain ⟨x,hx,a1,a2⟩:=Cd hr (show k<rows.length by simp at hk;omega)
  obtain ⟨z,rfl,b1,b2⟩:=hy y (List.mem_cons_self ..)
  have hsr:=nW k wd x z
  obtain ⟨y3,y4,y5,ih⟩:=pK (F1:=F1) (F2:=F2) hw hr p x1 ys (k+1) (some (.val (.int (k:Int)))) (some (.val (.str z))) (some (.val (.str x))) (acc++dn k wd x z) (by simp at hk;omega) (fun r m=>hy r (List.mem_cons_of_mem _ m)) (by simp at ha ⊢;omega)
  refine ⟨y3,y4,y5,?_⟩
  have hB:cW F1 F2 [some (.val (.tup [.int (wd:Int),.tup rows,p])),x1,some (.own acc),some (.val (.int (k:Int))),some (.val (.str z)),x5]=.nx [some (.val (.tup [.int (wd:Int),.tup rows,p])),x1,some (.own (acc++dn k wd x z)),some (.val (.int (k:Int))),some (.val (.str z)),some (.val (.str x))]:=by
   have lb:=bE
   have x0:=GG
   have x1':=FD
   have e1:ixD (.tup rows) (.int (k:Int))=some (.str x):=JN (by rw [<- hx,List.getD_eq_getElem?_getD,List.getElem?_eq_getElem (by simp at hk;omega)];rfl)
   have r1:cr [.int (wd:Int)]=.ok ((List.range wd).map fun (i:Nat)=>D.int (i:Int)):=qN (by omega)
   have m2:=t2
   have e:eO (gB2 neF (g2 ixD (rvz 3) (rvz 0)) (g2 ixD (rvz 2) (rvz 0))) (aH mkT (aa (rvz 1) (aa (rvz 0) nlz))) ((List.range wd).map fun (i:Nat)=>D.int (i:Int)) [none,some (.val (.int (k:Int))),some (.val (.str z)),some (.val (.str x))]=.ok (dn k wd x z):=by
    have:=zE (gt:=gB2 neF (g2 ixD (rvz 3) (rvz 0)) (g2 ixD (rvz 2) (rvz 0))) (ge:=aH mkT (aa (rvz 1) (aa (rvz 0) nlz))) (fun d=>match d with|.int i=>!(x.getD i.toNat 0==z.getD i.toNat 0)|_=>false) (fun d=>.tup [.int (k:Int),d]) [some (.val (.int (k:Int))),some (.val (.str z)),some (.val (.str x))] ((List.range wd).map fun (i:Nat)=>D.int (i:Int)) none fun d hd=>by
     obtain ⟨i,hi,rfl⟩:=List.mem_map.1 hd
     rw [List.mem_range] at hi
     have e2:ixD (.str x) (.int (i:Int))=some (.str [x.getD i 0]):=JT (by rw [List.getD_eq_getElem?_getD,List.getElem?_eq_getElem (by omega)];rfl)
     have e4:ixD (.str z) (.int (i:Int))=some (.str [z.getD i 0]):=JT (by rw [List.getD_eq_getElem?_getD,List.getElem?_eq_getElem (by omega)];rfl)
     have e3:(i:Int).toNat=i:=Int.toNat_natCast i
     have e5:∀ u v:Nat,(([u]:List Nat)==[v])=(u==v):=fun u v=>by simp
     clear ih hk ha hr hw hx a1 a2 b1 b2 hy lb hd hi hsr
     refine ⟨?_,?_⟩
     ·walk_at "run"
     ·walk_at "run"
    rw [this,List.filter_map,List.map_map]
    unfold dn
    refine congrArg R.ok ?_
    simp only [Function.comp_def,Int.toNat_natCast]
   have i2:gW [3,4,5] [some (.val (.tup [.int (wd:Int),.tup rows,p])),x1,some (.own acc),some (.val (.int (k:Int))),some (.val (.str z)),some (.val (.str x))]=[none,some (.val (.int (k:Int))),some (.val (.str z)),some (.val (.str x))]:=rfl
   have z1:(dn k wd x z).length<=sizeLine:=by omega
   have z2:acc.length+(dn k wd x z).length<=sizeLine:=by simp at ha;omega
   unfold cW
   clear ih hk ha hr hw hx a1 a2 b1 b2 hy lb hsr
   walk_at "run"
  rw [jr,eR (ρ1:=[some (.val (.tup [.int (wd:Int),.tup rows,p])),x1,some (.own acc),some (.val (.int (k:Int))),some (.val (.str z)),x5]) rfl hB,ih,cK,hx,List.append_assoc];rfl
theorem pj (n c:Nat) (h:(decide (32<=c) && decide (c<=126))=true):bh (List.replicate n c)=true:=by
 simp only [bh,List.all_eq_true]
 intro x hx
 rw [(List.mem_replicate.1 hx).2];exact h
theorem kL {n:Nat} {xs:List (List Nat)} (h:bi n wd xs=true):lr (cX n wd xs) wd/\(cX n wd xs).length=n:=by
 simp only [bi,txt,Bool.and_eq_true,decide_eq_true_eq,List.all_eq_true] at h
 refine ⟨fun r hr=>?_,by simp [cX];omega⟩
 simp only [cX,List.mem_append,List.mem_map] at hr
 rcases hr with ⟨x,hx,rfl⟩|hr
 ·exact ⟨_,rfl,by simp [wD];have:=(h.2 x hx).2;omega,ni (h.2 x hx).1 (pj _ _ (by decide))⟩
 ·rw [(List.mem_replicate.1 hr).2]
  exact ⟨_,rfl,by simp,pj _ _ (by decide)⟩
theorem ox:∀ ds:List D,ds.length=2->usF ds=.no\/aq (dB crF frF (ar 6 ds))=usF ds:=by
 intro ds hl
 match ds,hl with
 | [d,l],_=>
  refine Ga (d:=d) (fun wd rows p e=>?_) fun e=>Or.inl ?_
  ·subst e
   cases l <;> first|exact Or.inl rfl|skip
   rename_i f ds hl
   cases hs:dZ ds with
   | none=>exact Or.inl (by simp only [usF,hs])
   | some xs=>
    by_cases hc:screen (.tup [.int wd,.tup rows,p])=true/\bi rows.length wd.toNat xs=true
    ·refine Or.inr ?_
     have e1:usF [.tup [.int wd,.tup rows,p],.lst f ds]=.ok (.lst false (cK wd.toNat rows 0 (cX rows.length wd.toNat xs))):=by simp only [usF,hs];exact if_pos hc
     have e2:crF [.tup [.int wd,.tup rows,p],.lst f ds]=.ok .non:=by simp only [crF,hs];exact if_pos hc
     obtain ⟨⟨w1,w2⟩,⟨n1,n2⟩,_,_⟩:=mF hc.1
     have e3:frF [.tup [.int wd,.tup rows,p],.lst f ds]=.ok (.lst false (cX rows.length wd.toNat xs)):=by simp only [frF,hs];exact if_pos ⟨by omega,by omega,hc.2⟩
     rw [e1]
     obtain ⟨wd,rfl⟩:=Int.eq_ofNat_of_zero_le (a:=wd) (by omega)
     obtain ⟨hcs,hcf⟩:=hc
     simp only [Int.toNat_natCast] at e3 hcf ⊢
     obtain ⟨q1,q2⟩:=kL hcf
     have lb:=bE
     obtain ⟨y3,y4,y5,hL⟩:=pK (F1:=crF) (F2:=frF) (rows:=rows) (wd:=wd) (by omega) (A3 hcs) p (some (.val (.lst f ds))) (cX rows.length wd xs) 0 none none none [] (by omega) q1 (by simp;omega)
     rw [List.nil_append] at hL
     show aq (aC _ _ [some (.val (.tup [.int wd,.tup rows,p])),some (.val (.lst f ds)),none,none,none,none])=_
     have f2:∀ (a0 a1 a3 a4 a5:Option Sl) (ds:List D),frz 2 [a0,a1,some (.own ds),a3,a4,a5]=[a0,a1,some (.val (.lst false ds)),a3,a4,a5]:=fun _ _ _ _ _ _=>rfl
     have en:∀ l:List D,qG (.lst false l)=.ok (bH 0 l):=fun _=>rfl
     have z0:(0:Nat)<=sizeLine:=Nat.zero_le _
     unfold gX gO gZ hW
     clear hl hs e1 w1 w2 n1 n2 q1 q2 lb hcs hcf
     walk_at "run"
    ·exact Or.inl (by simp only [usF,hs];exact if_neg hc)
  ·unfold usF
   split
   ·rename_i q;cases q;exact absurd rfl (e _ _ _)
   ·rfl
noncomputable abbrev vL (f:Bool) (n:List Int):Option Sl:=some (.val (.lst f (n.map .int)))
abbrev vI (n:Nat):Option Sl:=some (.val (.int (n:Int)))
abbrev vD (d:D):Option Sl:=some (.val d)
abbrev vS (x:List Nat):Option Sl:=some (.val (.str x))
def JV:List D->R D:=fun ds=>aq (kK mi (ar 1 ds))
def goG:List D->R D:=fun ds=>aq (mG Bz (ar 1 ds))
def Lz:List D->R D:=fun ds=>aq (hV JV goG (ar 1 ds))
noncomputable def ckG (C:Addr):List D->R D:=fun ds=>aq (eP Lz C (ar 1 ds))
noncomputable def FV (C:Addr):List D->R D:=fun ds=>aq (dA (ckG C) C (ar 2 ds))
def isS:Od->Bool
 | .say _=>true
 | _=>false
def isG:Od->Bool
 | .go _ _=>true
 | _=>false
theorem LQ {o:Od} (h:okO o=true):JV [oD o]=.ok (.bl (isS o)):=by
 cases o with
 | say x=>
  simp only [okO,Bool.and_eq_true,decide_eq_true_eq] at h
  have i1:mi [.str x]=.ok (.bl true):=by rw [rL (by omega),h.1]
  have d1:decide ((1:Int)<=(x.length:Int))=true:=by rw [decide_eq_true_eq];omega
  have d2:decide ((x.length:Int)<=40)=true:=by rw [decide_eq_true_eq];omega
  have e1:eS [oD (.say x)]=some (.int 2):=rfl
  have e2:ixD (oD (.say x)) (.int 0)=some (.str [115,97,121]):=rfl
  have e3:ixD (oD (.say x)) (.int 1)=some (.str x):=rfl
  have q0:eqF (.str [115,97,121]) (.str [115,97,121])=some (.bl true):=rfl
  have q1:eqF (.int 2) (.int 2)=some (.bl true):=rfl
  show aq (aC _ _ [vD (oD (.say x))])=.ok (.bl true)
  unfold sk
  clear h
  generalize oD (.say x)=u at *
  walk_at "run"
 | go r c=>rfl
 | wipe=>rfl
theorem Np {o:Od} (h:okO o=true):goG [oD o]=.ok (.bl (isG o)):=by
 cases o with
 | go r c=>
  simp only [okO,Bool.and_eq_true,decide_eq_true_eq] at h
  have i1:Bz [.int (r:Int),.int 0,.int 11]=.ok (.bl true):=by
   show R.ok (D.bl (decide (0<=(r:Int)) && decide ((r:Int)<=11)))=_
   rw [decide_eq_true (by omega),decide_eq_true (by omega)];rfl
  have i2:Bz [.int (c:Int),.int 0,.int 40]=.ok (.bl true):=by
   show R.ok (D.bl (decide (0<=(c:Int)) && decide ((c:Int)<=40)))=_
   rw [decide_eq_true (by omega),decide_eq_true (by omega)];rfl
  have e1:eS [oD (.go r c)]=some (.int 3):=rfl
  have e2:ixD (oD (.go r c)) (.int 0)=some (.str [103,111]):=rfl
  have e3:ixD (oD (.go r c)) (.int 1)=some (.int (r:Int)):=rfl
  have e4:ixD (oD (.go r c)) (.int 2)=some (.int (c:Int)):=rfl
  have q0:neF (.str [103,111]) (.str [103,111])=some (.bl false):=rfl
  have q1:neF (.int 3) (.int 3)=some (.bl false):=rfl
  have q2:vM (.int 12) (.int 1)=some (.int 11):=rfl
  show aq (aC _ _ [vD (oD (.go r c))])=.ok (.bl true)
  unfold xD xc
  clear h
  generalize oD (.go r c)=u at *
  walk_at "run"
 | say x=>rfl
 | wipe=>rfl
theorem Lo {o:Od} (h:okO o=true):Lz [oD o]=.ok (.bl true):=by
 have h1:=LQ h
 have h2:=Np h
 have e1:jA (·=="tuple") (oD o)=.ok (.bl true):=by cases o <;> rfl
 have e2:mkT [.str [119,105,112,101]]=.ok (oD .wipe):=rfl
 have e3:eqF (oD .wipe) (oD .wipe)=some (.bl true):=rfl
 show aq (aC _ _ [vD (oD o)])=_
 unfold nh nO
 clear h
 cases o with
 | say x=>change _=R.ok (D.bl true) at h1;generalize oD (.say x)=u at *;walk_at "run"
 | go r c=>change _=R.ok (D.bl false) at h1;change _=R.ok (D.bl true) at h2;generalize oD (.go r c)=u at *;walk_at "run"
 | wipe=>change _=R.ok (D.bl false) at h1;change _=R.ok (D.bl false) at h2;generalize oD .wipe=u at *;walk_at "run"
theorem MT {o:Od} (h:okO o=true):ckG C [oD o]=.ok .non:=by
 have h1:=Lo h
 show aq (aC _ _ [vD (oD o)])=_
 unfold iY
 generalize oD o=u at *
 walk_at "run"
theorem E6 {f:Bool} {os:List Od} (h:∀ o∈os,okO o=true):FV C [.lst f (os.map oD)]=.ok .non:=by
 have lp:∀ (os:List Od) (x1:Option Sl),(∀ o∈os,okO o=true)->∃ y1,cH (kU 1) (eN (ckG C) C) (os.map oD) [vD (.lst f (os.map oD)),x1]=.nx [vD (.lst f (os.map oD)),y1]:=fun os=>by
  generalize vD (.lst f (os.map oD))=x0
  induction os with
  | nil=>exact fun x1 _=>⟨x1,rfl⟩
  | cons o os ih=>
   intro x1 h
   obtain ⟨y1,e⟩:=ih (vD (oD o)) fun o ho=>h o (List.mem_cons_of_mem _ ho)
   refine ⟨y1,(eR (ρ2:=[x0,vD (oD o)]) rfl ?_).trans e⟩
   have h1:=MT (C:=C) (h o (List.mem_cons_self ..))
   unfold eN
   generalize oD o=u at *
   clear h ih e
   walk_at "run"
 obtain ⟨y1,e⟩:=lp os none h
 have e1:jA (·=="list") (.lst f (os.map oD))=.ok (.bl true):=rfl
 have e2:ce (.lst f (os.map oD))=.ok (os.map oD):=rfl
 show aq (aC _ _ [vD (.lst f (os.map oD)),none])=_
 unfold gU ib
 clear h lp
 walk_at "run"
def ocG:List D->R D:=fun ds=>aq (fy (ar 1 ds))
theorem Mf (o:Od):ocG [oD o]=.ok (.int (bQ o:Int)):=by cases o <;> rfl
noncomputable def coG (C:Addr):List D->R D:=fun ds=>aq (qR (FV C) ocG (ar 1 ds))
theorem Du {α:Type} {ge:Ev->R D} (f g:α->D) (tl:Ev):∀ (xs:List α) (a:Option Sl),(∀ x∈xs,ge (vD (f x)::tl)=.ok (g x))->eO (fun _=>R.ok true) ge (xs.map f) (a::tl)=.ok (xs.map g)
 | [],_,_=>rfl
 | x::xs,a,h=>by
  have ih:=Du (ge:=ge) f g tl xs (vD (f x)) fun y hy=>h y (List.mem_cons_of_mem _ hy)
  have h1:=h x (List.mem_cons_self ..)
  unfold eO at ih ⊢
  rw [List.map_cons,List.map_cons,gC]
  show (dH (ge (vD (f x)::tl))>>=fun z=>gC (kU 0) (fun _=>R.ok true) ge (xs.map f) (vD (f x)::tl)>>=fun zs=>R.ok (z::zs))=_
  rw [h1,ih];rfl
theorem Ly:∀ os:List Od,GH [.lst false (os.map fun o=>D.int (bQ o:Int))]=some (.int ((os.map bQ).sum:Nat)):=fun os=>by
 have key:qp (os.map fun o=>D.int (bQ o:Int))=some (os.map fun o=>(bQ o:Int)):=by
  induction os with
  | nil=>rfl
  | cons o l ih=>rw [List.map_cons,qp,ih];rfl
 have key2:(os.map fun o=>(bQ o:Int)).sum=((os.map bQ).sum:Nat):=by
  clear key
  induction os with
  | nil=>rfl
  | cons o l ih=>rw [List.map_cons,List.sum_cons,ih,List.map_cons,List.sum_cons,Int.natCast_add]
 simp only [GH,key,key2]
theorem Mm {f:Bool} {os:List Od} (h:∀ o∈os,okO o=true) (hl:os.length<=1000):coG C [.lst f (os.map oD)]=.ok (.int ((os.map bQ).sum:Nat)):=by
 have h1:=E6 (C:=C) (f:=f) h
 have c1:=Du (ge:=aM 1 ocG (aa (rvz 0) nlz)) oD (fun o=>.int (bQ o:Int)) [] os none (fun o _=>by rw [Bk,show ∀ i ρ,rvz i ρ=rdV ρ i from fun _ _=>rfl,rd0,R.ok_bind,Mf])
 have e2:ce (.lst f (os.map oD))=.ok (os.map oD):=rfl
 have z:(os.map fun o=>D.int (bQ o:Int)).length<=sizeLine:=by have:=bE;rw [List.length_map];omega
 have sm:=Ly os
 have i0:∀ x:Option Sl,gW [] [x]=[none]:=fun _=>rfl
 show aq (aC _ _ [vD (.lst f (os.map oD))])=_
 unfold AG Bq
 clear h hl
 walk_at "run"
def jnG:List D->R D:=fun ds=>aq (cZ (ar 3 ds))
theorem M7 {o p:Od} (hn:rz o+rz p<=1000):jnG [oD o,oD p]=.ok (jD (jk o p)):=by
 cases o with
 | say x=>
  cases p with
  | say y=>
   simp only [rz] at hn
   have a1:bR (.str x) (.str y)=some (.str (x++y)):=vB (by have:=bE;omega)
   have x0:∀ z:List Nat,ixD (oD (.say z)) (.int 0)=some (.str [115,97,121]):=fun _=>rfl
   have x1:∀ z:List Nat,ixD (oD (.say z)) (.int 1)=some (.str z):=fun _=>rfl
   have q0:neF (.str [115,97,121]) (.str [115,97,121])=some (.bl false):=rfl
   have m2:∀ v:List Nat,mkT [.str [115,97,121],.str v]=.ok (oD (.say v)):=fun _=>rfl
   have ej:jk (.say x) (.say y)=if x.length+y.length<=40 then some (.say (x++y)) else none:=rfl
   show aq (aC _ _ [vD (oD (.say x)),vD (oD (.say y)),none])=_
   unfold fP fI fM fJ
   rw [ej]
   by_cases h:x.length+y.length<=40
   ·have d1:decide (((x++y).length:Int)<=40)=true:=by rw [decide_eq_true_eq,List.length_append];omega
    have e9:jD (if x.length+y.length<=40 then some (.say (x++y)) else none)=oD (.say (x++y)):=by rw [if_pos h];rfl
    rw [e9]
    clear hn h ej e9
    walk_at "run"
   ·have d1:decide (((x++y).length:Int)<=40)=false:=by rw [decide_eq_false_iff_not,List.length_append];omega
    have e9:jD (if x.length+y.length<=40 then some (.say (x++y)) else none)=.non:=by rw [if_neg h];rfl
    rw [e9]
    clear hn h ej e9
    walk_at "run"
  | go r c=>rfl
  | wipe=>rfl
 | go r c=>cases p <;> rfl
 | wipe=>cases p <;> rfl
theorem BR {l o j:Od} (h:jk l o=some j) (h1:okO l=true) (h2:okO o=true):okO j=true:=by
 cases l <;> cases o <;> first|(simp [jk] at h;done)|skip
 ·simp only [jk] at h
  split at h
  ·cases h
   simp only [okO,Bool.and_eq_true,decide_eq_true_eq] at *
   exact ⟨iE h1.1 h2.1,by simp;omega,by simp;omega⟩
  ·cases h
 ·simp only [jk,Option.some.injEq] at h;subst h;exact h2
 ·simp only [jk,Option.some.injEq] at h;subst h;exact h2
theorem xj {acc:List Od} {o:Od} (h1:∀ p∈acc,okO p=true) (h2:okO o=true):∀ p∈eA acc o,okO p=true:=by
 rcases E4 acc with rfl|⟨a,l,rfl⟩
 ·intro p hp
  rw [sV] at hp
  rw [List.mem_singleton.1 hp];exact h2
 ·cases hj:jk l o with
  | none=>
   intro p hp
   rw [oG hj] at hp
   rcases List.mem_append.1 hp with hp|hp
   ·exact h1 p hp
   ·rw [List.mem_singleton.1 hp];exact h2
  | some j=>
   intro p hp
   rw [kF hj] at hp
   rcases List.mem_append.1 hp with hp|hp
   ·exact h1 p (List.mem_append_left _ hp)
   ·rw [List.mem_singleton.1 hp];exact BR hj (h1 l (by simp)) h2
theorem wL:∀ (os acc:List Od),(∀ p∈acc,okO p=true)->(∀ p∈os,okO p=true)->∀ p∈os.foldl eA acc,okO p=true
 | [],acc,h,_=>h
 | o::os,acc,h1,h2=>wL os (eA acc o) (xj h1 (h2 o (List.mem_cons_self ..))) fun p hp=>h2 p (List.mem_cons_of_mem _ hp)
theorem nD:∀ (os acc:List Od),(os.foldl eA acc).length<=acc.length+os.length/\((os.foldl eA acc).map bQ).sum<=(acc.map bQ).sum+(os.map bQ).sum
 | [],acc=>by simp
 | o::os,acc=>by
  obtain ⟨_,a2,a3⟩:=xF acc o
  obtain ⟨b2,b3⟩:=nD os (eA acc o)
  simp only [List.foldl_cons,List.length_cons,List.map_cons,List.sum_cons]
  omega
theorem IX {os:List Od} (h:∀ o∈os,okO o=true):∀ o∈shO os,okO o=true:=wL os [] (fun _ h=>by cases h) h
theorem D3 {o:Od} (h:okO o=true):rz o<=40:=by
 cases o with
 | say x=>simp only [okO,Bool.and_eq_true,decide_eq_true_eq] at h;exact h.2.2
 | _=>exact Nat.zero_le _
noncomputable def shG (C:Addr):List D->R D:=fun ds=>aq (gw (FV C) jnG (ar 4 ds))
theorem Hb (x0 x3:Option Sl) (acc:List Od) (o:Od) (hs:∀ p∈acc,okO p=true) (ho:okO o=true) (ha:acc.length<1000):∃ y3,fb F jnG [x0,some (.own (acc.map oD)),vD (oD o),x3]=.nx [x0,some (.own ((eA acc o).map oD)),vD (oD o),y3]:=by
 have z:(acc.map oD).length<sizeLine:=by have:=bE;rw [List.length_map];omega
 have f1:∀ (a0 a2 a3:Option Sl) (ds:List D),frz 1 [a0,some (.own ds),a2,a3]=[a0,some (.val (.lst false ds)),a2,a3]:=fun _ _ _ _=>rfl
 have o1:∀ (a0 a2 a3:Option Sl) (ds:List D),ownAt [a0,some (.own ds),a2,a3] 1=.ok ds:=fun _ _ _ _=>rfl
 have ng1:CA (.int 1)=.ok (.int (-1)):=rfl
 have i1:isF .non .non=some (.bl true):=rfl
 have i2:∀ o:Od,isF (oD o) .non=some (.bl false):=fun o=>by cases o <;> rfl
 have fl1:=LC
 have fl2:fl 10 .non=true:=rfl
 have e8:∀ i:Int,asI (.int i)=.ok i:=fun _=>rfl
 unfold fb
 rcases E4 acc with rfl|⟨a,l,rfl⟩
 ·exact ⟨vD .non,rfl⟩
 ·have em:(a++[l]).map oD=a.map oD++[oD l]:=by simp
  have ej:=M7 (o:=l) (p:=o) (by have:=D3 (hs l (by simp));have:=D3 ho;omega)
  rw [em] at z ⊢
  have q1:decide ((0:Int)<((a.map oD++[oD l]).length:Int))=true:=by rw [decide_eq_true_eq,List.length_append];show (0:Int)<((_+1:Nat):Int);omega
  have ixl:ixN (a.map oD++[oD l]).length (-1)=some (a.map oD).length:=by
   unfold ixN
   rw [if_neg (by omega),if_pos (by simp;omega)]
   congr 1;simp;omega
  have l1:ixD (.lst false (a.map oD++[oD l])) (.int (-1))=some (oD l):=by
   show atI (a.map oD++[oD l]) (-1)=_
   unfold atI
   rw [ixl];simp
  cases hj:jk l o with
  | none=>
   rw [hj] at ej
   change _=R.ok D.non at ej
   refine ⟨vD .non,?_⟩
   rw [show (eA (a++[l]) o).map oD=a.map oD++[oD l]++[oD o] by rw [oG hj];simp]
   clear ha hs em hj ho
   walk_at "run"
  | some j=>
   rw [hj] at ej
   change _=R.ok (oD j) at ej
   refine ⟨vD (oD j),?_⟩
   have sl:(a.map oD++[oD l]).set (a.map oD).length (oD j)=a.map oD++[oD j]:=by simp
   rw [show (eA (a++[l]) o).map oD=a.map oD++[oD j] by rw [kF hj];simp]
   clear ha hs em hj ho
   walk_at "run"
theorem Ee {F:List D->R D} (x0:Option Sl):∀ (os acc:List Od) (x2 x3:Option Sl),(∀ p∈acc,okO p=true)->(∀ o∈os,okO o=true)->acc.length+os.length<=1000->∃ y2 y3,cH (kU 2) (fb F jnG) (os.map oD) [x0,some (.own (acc.map oD)),x2,x3]=.nx [x0,some (.own ((os.foldl eA acc).map oD)),y2,y3]
 | [],acc,x2,x3,_,_,_=>⟨x2,x3,rfl⟩
 | o::os,acc,x2,x3,h1,h2,hl=>by
  have ho:=h2 o (List.mem_cons_self ..)
  rw [List.length_cons] at hl
  obtain ⟨y3,e⟩:=Hb (F:=F) x0 x3 acc o h1 ho (by omega)
  obtain ⟨z2,z3,ih⟩:=Ee (F:=F) x0 os (eA acc o) (vD (oD o)) y3 (xj h1 ho) (fun p hp=>h2 p (List.mem_cons_of_mem _ hp)) (by have:=(xF acc o).2.1;omega)
  exact ⟨z2,z3,(eR rfl e).trans ih⟩
theorem Nm {f:Bool} {os:List Od} (h:∀ o∈os,okO o=true) (hl:os.length<=1000):shG C [.lst f (os.map oD)]=.ok (.lst false ((shO os).map oD)):=by
 have h1:=E6 (C:=C) (f:=f) h
 obtain ⟨y2,y3,e⟩:=Ee (F:=FV C) (vD (.lst f (os.map oD))) os [] none none (fun _ h=>by cases h) h (by rw [List.length_nil];omega)
 have e2:ce (.lst f (os.map oD))=.ok (os.map oD):=rfl
 have f1:∀ (a0 a2 a3:Option Sl) (ds:List D),frz 1 [a0,some (.own ds),a2,a3]=[a0,some (.val (.lst false ds)),a2,a3]:=fun _ _ _ _=>rfl
 show aq (aC _ _ [vD (.lst f (os.map oD)),none,none,none])=_
 unfold lu kY lf kO
 rw [List.map_nil] at e
 have z:(0<=sizeLine)=True:=eq_true (Nat.zero_le _)
 unfold shO
 clear h hl
 walk_at "run"
def wrG:List D->R D:=fun ds=>aq (cD (ar 5 ds))
noncomputable def asG (C:Addr):List D->R D:=fun ds=>aq (gh wrG C (ar 5 ds))
def agG (C:Addr):List D->R D:=fun ds=>aq (iz C (ar 3 ds))
def awG:List D->R D:=fun ds=>aq (fF wrG (ar 3 ds))
noncomputable def aoG (C:Addr):List D->R D:=fun ds=>aq (eI (asG C) (agG C) awG (ar 2 ds))
noncomputable def adG (Cs Co Cr:Addr):List D->R D:=fun ds=>aq (hX (mQ Cs) (FV Co) (aoG Cr) (ar 4 ds))
section
variable {C:Addr} {wd r c:Nat} {rows:List (List Nat)}
theorem sx0:ixD (sD (wd,rows,r,c)) (.int 0)=some (.int (wd:Int)):=rfl
theorem sx1:ixD (sD (wd,rows,r,c)) (.int 1)=some (.tup (rows.map .str)):=rfl
theorem sx2:ixD (sD (wd,rows,r,c)) (.int 2)=some (.tup [.int (r:Int),.int (c:Int)]):=rfl
theorem rx0:ixD (.tup [.int (r:Int),.int (c:Int)]) (.int 0)=some (.int (r:Int)):=rfl
theorem rx1:ixD (.tup [.int (r:Int),.int (c:Int)]) (.int 1)=some (.int (c:Int)):=rfl
theorem K3 (hr:r<rows.length):ixD (.tup (rows.map .str)) (.int (r:Int))=some (.str (rows.getD r [])):=by
 refine JN ?_
 rw [List.getElem?_map,List.getElem?_eq_getElem hr,List.getD_eq_getElem?_getD,List.getElem?_eq_getElem hr];rfl
theorem NC {x:List Nat} (hr:r<rows.length) (hm:rows.length<=100):wrG [sD (wd,rows,r,c),.str x,.int (j:Int)]=.ok (sD (wd,rows.set r x,r,j)):=by
 have x0:=sx0 (wd:=wd) (r:=r) (c:=c) (rows:=rows)
 have x1:=sx1 (wd:=wd) (r:=r) (c:=c) (rows:=rows)
 have x2:=sx2 (wd:=wd) (r:=r) (c:=c) (rows:=rows)
 have x3:=rx0 (r:=r) (c:=c)
 have c1:=CW (rows.map D.str) r
 have c2:jT (rows.map D.str) (some ((r:Int)+1)) none=(rows.map D.str).drop (r+1):=vj _ (r+1)
 have k1:∀ x,mkT [x]=.ok (.tup [x]):=fun _=>rfl
 have k2:∀ x y,mkT [x,y]=.ok (.tup [x,y]):=fun _ _=>rfl
 have k3:∀ x y z,mkT [x,y,z]=.ok (.tup [x,y,z]):=fun _ _ _=>rfl
 have a1:bR (.tup ((rows.map D.str).take r)) (.tup [.str x])=some (.tup ((rows.map D.str).take r++[.str x])):=Hv (by have:=bE;simp;omega)
 have a2:bR (.tup ((rows.map D.str).take r++[.str x])) (.tup ((rows.map D.str).drop (r+1)))=some (.tup ((rows.set r x).map D.str)):=by
  rw [<- Cq rows r x hr];exact Hv (by have:=bE;simp;omega)
 show aq (aC _ _ [vD (sD (wd,rows,r,c)),vD (.str x),vI j,none,none])=.ok (.tup [.int (wd:Int),.tup ((rows.set r x).map D.str),.tup [.int (r:Int),.int (j:Int)]])
 unfold dI dF dG
 clear hr hm
 generalize sD (wd,rows,r,c)=S at *
 walk_at "run"
theorem ME {s:St} {o:Od} (h:GS s) (ho:okO o=true):aoG C [sD s,oD o]=Hr C (dQ s o):=by
 obtain ⟨wd,rows,r,c⟩:=s
 have hr:r<rows.length:=h.r
 have hm:rows.length<=12:=h.m
 have hc:c<=wd:=h.c
 have hw:wd<=40:=h.w2
 have hl:(rows.getD r []).length=wd:=(h.l _ (lZ hr)).1
 have x0:=sx0 (wd:=wd) (r:=r) (c:=c) (rows:=rows)
 have x1:=sx1 (wd:=wd) (r:=r) (c:=c) (rows:=rows)
 have x2:=sx2 (wd:=wd) (r:=r) (c:=c) (rows:=rows)
 have x3:=rx0 (r:=r) (c:=c)
 have x4:=rx1 (r:=r) (c:=c)
 have x5:=K3 hr
 have wr:=fun x j=>NC (wd:=wd) (c:=c) (x:=x) (j:=j) hr (by omega)
 have n1:eqF (.str [103,111]) (.str [115,97,121])=some (.bl false):=rfl
 have n2:eqF (.str [119,105,112,101]) (.str [115,97,121])=some (.bl false):=rfl
 have n3:eqF (.str [119,105,112,101]) (.str [103,111])=some (.bl false):=rfl
 have n4:eqF (.str [103,111]) (.str [103,111])=some (.bl true):=rfl
 have n5:eqF (.str [115,97,121]) (.str [115,97,121])=some (.bl true):=rfl
 cases o with
 | say x=>
  simp only [okO,Bool.and_eq_true,decide_eq_true_eq] at ho
  have o0:ixD (oD (.say x)) (.int 0)=some (.str [115,97,121]):=rfl
  have o1:ixD (oD (.say x)) (.int 1)=some (.str x):=rfl
  have e:asG C [sD (wd,rows,r,c),.str x]=Hr C (dQ (wd,rows,r,c) (.say x)):=by
   have es:dQ (wd,rows,r,c) (.say x)=if wd<c+x.length then none else some (wd,rows.set r ((rows.getD r []).take c++x++(rows.getD r []).drop (c+x.length)),r,c+x.length):=rfl
   rw [es]
   have wx:=wr ((rows.getD r []).take c++x++(rows.getD r []).drop (c+x.length)) (c+x.length)
   clear es
   generalize rows.getD r []=row at *
   have c1:=CW row c
   have c2:=vj row (c+x.length)
   have a1:bR (.str (row.take c)) (.str x)=some (.str (row.take c++x)):=vB (by have:=bE;simp;omega)
   have a2:bR (.str (row.take c++x)) (.str (row.drop (c+x.length)))=some (.str (row.take c++x++row.drop (c+x.length))):=vB (by have:=bE;simp;omega)
   have a3:bR (.int (c:Int)) (.int (x.length:Int))=some (.int ((c+x.length:Nat):Int)):=rfl
   show aq (aC _ _ [vD (sD (wd,rows,r,c)),vD (.str x),none,none,none])=_
   unfold kQ kR kX kP kZ
   clear wr h ho
   by_cases hn:wd<c+x.length
   ·have d1:decide ((wd:Int)<((c+x.length:Nat):Int))=true:=by rw [decide_eq_true_eq];omega
    rw [if_pos hn]
    show _=R.ex C
    generalize sD (wd,rows,r,c)=S at *
    clear hn hl hw hc hm hr wx c1
    walk_at "run"
   ·have d1:decide ((wd:Int)<((c+x.length:Nat):Int))=false:=by rw [decide_eq_false_iff_not];omega
    rw [if_neg hn]
    show _=R.ok (sD (wd,rows.set r (row.take c++x++row.drop (c+x.length)),r,c+x.length))
    generalize sD (wd,rows.set r (row.take c++x++row.drop (c+x.length)),r,c+x.length)=S' at *
    generalize sD (wd,rows,r,c)=S at *
    clear hn hl hw hc hm hr
    walk_at "run"
  show aq (aC _ _ [vD (sD (wd,rows,r,c)),vD (oD (.say x))])=_
  unfold dl dm dq
  clear wr x5 hl hw hc hm hr h ho
  generalize dQ (wd,rows,r,c) (.say x)=z at e ⊢
  generalize sD (wd,rows,r,c)=S at *
  generalize oD (.say x)=u at *
  cases z <;> simp only [Hr] at e ⊢ <;> walk_at "run"
 | go n k=>
  have o0:ixD (oD (.go n k)) (.int 0)=some (.str [103,111]):=rfl
  have o1:ixD (oD (.go n k)) (.int 1)=some (.int (n:Int)):=rfl
  have o2:ixD (oD (.go n k)) (.int 2)=some (.int (k:Int)):=rfl
  have e:agG C [sD (wd,rows,r,c),.int (n:Int),.int (k:Int)]=Hr C (dQ (wd,rows,r,c) (.go n k)):=by
   have es:dQ (wd,rows,r,c) (.go n k)=if rows.length<=n\/wd<k then none else some (wd,rows,n,k):=rfl
   have ln:eS [.tup (rows.map .str)]=some (.int (rows.length:Int)):=by rw [IG,List.length_map]
   have k2:mkT [.int (n:Int),.int (k:Int)]=.ok (.tup [.int (n:Int),.int (k:Int)]):=rfl
   have k3:mkT [.int (wd:Int),.tup (rows.map .str),.tup [.int (n:Int),.int (k:Int)]]=.ok (sD (wd,rows,n,k)):=rfl
   rw [es]
   show aq (aC _ _ [vD (sD (wd,rows,r,c)),vI n,vI k])=_
   unfold nK mq
   clear wr es h x5 hl hw hc hm hr
   by_cases h1:rows.length<=n
   ·have d1:decide ((rows.length:Int)<=(n:Int))=true:=by rw [decide_eq_true_eq];omega
    rw [if_pos (.inl h1)]
    show _=R.ex C
    generalize sD (wd,rows,r,c)=S at *
    generalize rows.map D.str=R at *
    clear h1 k3
    walk_at "run"
   ·have d1:decide ((rows.length:Int)<=(n:Int))=false:=by rw [decide_eq_false_iff_not];omega
    by_cases h2:wd<k
    ·have d2:decide ((wd:Int)<(k:Int))=true:=by rw [decide_eq_true_eq];omega
     rw [if_pos (.inr h2)]
     show _=R.ex C
     generalize sD (wd,rows,r,c)=S at *
     generalize rows.map D.str=R at *
     clear h1 h2 k3
     walk_at "run"
    ·have d2:decide ((wd:Int)<(k:Int))=false:=by rw [decide_eq_false_iff_not];omega
     rw [if_neg (by omega)]
     show _=R.ok (sD (wd,rows,n,k))
     generalize sD (wd,rows,n,k)=S' at *
     generalize sD (wd,rows,r,c)=S at *
     generalize rows.map D.str=R at *
     clear h1 h2
     walk_at "run"
  show aq (aC _ _ [vD (sD (wd,rows,r,c)),vD (oD (.go n k))])=_
  unfold dl dm dq
  clear wr x5 hl hw hc hm hr h ho
  generalize dQ (wd,rows,r,c) (.go n k)=z at e ⊢
  generalize sD (wd,rows,r,c)=S at *
  generalize oD (.go n k)=u at *
  cases z <;> simp only [Hr] at e ⊢ <;> walk_at "run"
 | wipe=>
  have o0:ixD (oD .wipe) (.int 0)=some (.str [119,105,112,101]):=rfl
  have e:awG [sD (wd,rows,r,c)]=.ok (sD (wd,rows.set r ((rows.getD r []).take c++List.replicate (wd - c) 32),r,c)):=by
   have wx:=wr ((rows.getD r []).take c++List.replicate (wd - c) 32) c
   generalize rows.getD r []=row at *
   have c1:=CW row c
   have lt:(row.take c).length=c:=by simp;omega
   have j1:iq (.str (row.take c)) [.int (wd:Int)]=some (.str (row.take c++List.replicate (wd - c) 32)):=by
    simp only [iq,lt,Int.toNat_natCast];rw [if_pos (by omega)]
   have kd:∀ x,oB "str" (.str x)=true:=fun _=>rfl
   show aq (aC _ _ [vD (sD (wd,rows,r,c)),none,none])=_
   unfold jN jy jC
   generalize sD (wd,rows.set r (row.take c++List.replicate (wd - c) 32),r,c)=S' at *
   generalize sD (wd,rows,r,c)=S at *
   clear wr h hl hw hc hm hr lt
   walk_at "run"
  show aq (aC _ _ [vD (sD (wd,rows,r,c)),vD (oD .wipe)])=.ok (sD (wd,rows.set r ((rows.getD r []).take c++List.replicate (wd - c) 32),r,c))
  unfold dl dm dq
  clear wr x5 hl hw hc hm hr h ho
  generalize sD (wd,rows.set r ((rows.getD r []).take c++List.replicate (wd - c) 32),r,c)=S' at *
  generalize sD (wd,rows,r,c)=S at *
  generalize oD .wipe=u at *
  walk_at "run"
theorem Hw {f:Bool}:∀ (os:List Od) {s s':St} (x0 x1 x3:Option Sl) {F1 F2:List D->R D},GS s->(∀ o∈os,okO o=true)->rn (some s) os=some s'->∃ y3,cH (kU 3) (ji F1 F2 (aoG C)) (os.map oD) [x0,x1,vD (sD s),x3]=.nx [x0,x1,vD (sD s'),y3]
 | [],s,s',x0,x1,x3,_,_,_,_,e=>⟨x3,by cases e;rfl⟩
 | o::os,s,s',x0,x1,x3,F1,F2,h,ho,e=>by
  have h1:=ho o (List.mem_cons_self ..)
  have a:=ME (C:=C) h h1
  rw [AO] at e
  cases z:dQ s o with
  | none=>rw [show ((some s).bind fun s=>dQ s o)=none from z,uQ] at e;cases e
  | some t=>
   rw [show ((some s).bind fun s=>dQ s o)=some t from z] at e
   rw [z] at a
   obtain ⟨y3,ih⟩:=Hw (f:=f) os x0 x1 (vD (oD o)) (F1:=F1) (F2:=F2) (zf h h1 z) (fun o ho'=>ho o (List.mem_cons_of_mem _ ho')) e
   refine ⟨y3,(eR (ρ2:=[x0,x1,vD (sD t),vD (oD o)]) rfl ?_).trans ih⟩
   change _=R.ok (sD t) at a
   unfold ji
   generalize sD t=T at *
   generalize sD s=S at *
   generalize oD o=u at *
   clear ih ho h1 h e z
   walk_at "run"
theorem Ms {Cs Co Cr:Addr} {s s':St} {f:Bool} (h:GS s) {os:List Od} (ho:∀ o∈os,okO o=true) (e:rn (some s) os=some s'):adG Cs Co Cr [sD s,.lst f (os.map oD)]=.ok (sD s'):=by
 have h1:=E6 (C:=Co) (f:=f) ho
 have h2:=tf (C:=Cs) h.screen
 obtain ⟨y3,lp⟩:=Hw (C:=Cr) (f:=f) os (vD (sD s)) (vD (.lst f (os.map oD))) none (F1:=mQ Cs) (F2:=FV Co) h ho e
 have e2:ce (.lst f (os.map oD))=.ok (os.map oD):=rfl
 show aq (aC _ _ [vD (sD s),vD (.lst f (os.map oD)),none,none])=_
 unfold nX nQ nG mK mO
 generalize sD s=S at *
 clear h ho e
 walk_at "run"
end
def ss:Ev->O:=(cw (g2 ixD (rvz 0) (ciz 0)))
def gz:Ev->O:=(aC ss oNx)
noncomputable def wF (aQ:List D->R D):Ev->O:=(oIf (ud (rA true 0 (rvz 1)) (gB2 ltD (aM 1 aQ (aa (rvz 2) nlz)) (aM 1 aQ (aa (ij 0 (rvz 1)) nlz)))) (aC (Cj 0 (rvz 1) (rvz 2)) oNx) oNx)
def fO (aQ:List D->R D):Ev->O:=(aC (wF aQ) oNx)
noncomputable def eD (I_offer:MF) (bd:List D->R D):Ev->O:=(eV (jW DC 0 2 I_offer (aa (rvz 1) (aa (aH mkT (aa (g2 bR (g2 ixD (rvz 2) (ciz 0)) (aM 1 bd (aa (rvz 3) nlz))) (aa (g2 bR (g2 ixD (rvz 2) (ciz 1)) (aH mkT (aa (rvz 3) nlz))) nlz))) nlz))))
noncomputable def bx (I_offer:MF) (bd:List D->R D):Ev->O:=(aC (eD I_offer bd) oNx)
noncomputable def dS (I_offer_with_order:MF):Ev->O:=(oIf (rA false 3 (fun _=>R.ok (D.tup [D.bl false,D.bl false]))) (aC (eV (jW DC 3 3 I_offer_with_order (aa (fun _=>R.ok (D.tup [D.bl true,D.bl false])) (aa (ij 3 (fun _=>R.ok (D.tup [D.bl false,D.bl false]))) (aa (aH mkT (aa (csz [103,111]) (aa (rvz 1) (aa (rvz 2) nlz)))) nlz))))) oNx) oNx)
noncomputable def dJ (I_offer_with_order:MF):Ev->O:=(oIf (rA false 3 (fun _=>R.ok (D.tup [D.bl true,D.bl false]))) (aC (eV (jW DC 3 3 I_offer_with_order (aa (fun _=>R.ok (D.tup [D.bl true,D.bl true])) (aa (ij 3 (fun _=>R.ok (D.tup [D.bl true,D.bl false]))) (aa (aH mkT (aa (csz [119,105,112,101]) nlz)) nlz))))) oNx) oNx)
noncomputable def dN (I_offer_with_order:MF):Ev->O:=(oIf (rA false 3 (fun _=>R.ok (D.tup [D.bl false,D.bl true]))) (aC (eV (jW DC 3 3 I_offer_with_order (aa (fun _=>R.ok (D.tup [D.bl true,D.bl true])) (aa (ij 3 (fun _=>R.ok (D.tup [D.bl false,D.bl true]))) (aa (aH mkT (aa (csz [103,111]) (aa (rvz 1) (aa (rvz 2) nlz)))) nlz))))) oNx) oNx)
def jY (I_offer_with_order:MF):Ev->O:=(tB 3)
noncomputable def dW (I_offer_with_order:MF):Ev->O:=(aC (dS I_offer_with_order) (aC (dJ I_offer_with_order) (aC (dN I_offer_with_order) (aC (jY I_offer_with_order) oNx))))
noncomputable def cq (I_offer_with_order:MF):Addr×Unit->Ev->O:=(zY 3 (rvz 0) (Gk (dW I_offer_with_order)))
noncomputable def cY (I_offer_with_order I_offer:MF):Ev->O:=(aC (eF 6 (g2 ixD (rvz 4) (ciz 1))) (aC (oIf (aH kn (g2 ixD (rvz 4) (ciz 0))) (aC (eV (jW DC 3 3 I_offer_with_order (aa (aH mkT (aa (fun _=>R.ok (D.bl true)) (aa (rvz 6) nlz))) (aa (rvz 5) (aa (aH mkT (aa (csz [115,97,121]) (aa (rvz 2) nlz))) nlz))))) oNx) oNx) (aC (oIf (gB2 eqF (gIf (aH kn (rvz 6)) (csz [32]) (rvz 1)) (rvz 2)) (aC (eV (jW DC 3 2 I_offer (aa (aH mkT (aa (fun _=>R.ok (D.bl false)) (aa (rvz 6) nlz))) (aa (rvz 5) nlz)))) oNx) oNx) oNx)))
noncomputable def cz (I_offer_with_order I_offer:MF):Ev->O:=(sK (vT [4,5]) (aH zv (rvz 0)) (cY I_offer_with_order I_offer))
def eG (I_offer_with_order I_offer:MF):Ev->O:=(tB 3)
noncomputable def mh (I_offer_with_order I_offer:MF):Ev->O:=(aC (cz I_offer_with_order I_offer) (aC (eG I_offer_with_order I_offer) oNx))
noncomputable def cm (I_offer_with_order I_offer:MF):Addr×Unit->Ev->O:=(Em 3 (Gk (mh I_offer_with_order I_offer)))
def wo (bq aY:List D->R D):Ev->O:=(eF 5 (rvz 0))
noncomputable def lX (bq aY:List D->R D):Ev->O:=(aC (eF 5 (aM 3 aY (aa (aM 3 bq (aa (rvz 5) (aa (rvz 1) (aa (rvz 6) nlz)))) (aa (g2 ixD (rvz 2) (rvz 6)) (aa (g2 ixD (rvz 3) (rvz 6)) nlz))))) oNx)
noncomputable def wj (bq aY:List D->R D):Ev->O:=(sK (kU 6) (aH jp (aa (rvz 4) (aa (gOf eS (aa (rvz 2) nlz)) nlz))) (lX bq aY))
def wG (bq aY:List D->R D):Ev->O:=(cw (rvz 5))
noncomputable def mX (bq aY:List D->R D):Ev->O:=(aC (wo bq aY) (aC (wj bq aY) (aC (wG bq aY) oNx)))
noncomputable def uZ (aQ:List D->R D):Ev->O:=(cw (vt (cu (gm (aH ce (rvz 1)) [0] (rA false 1 (rvz 0)) (ij 1 (rvz 0)))) aQ))
def ii (aQ:List D->R D):Ev->O:=(aC (uZ aQ) oNx)
noncomputable def db (bG aR:List D->R D):Ev->O:=(eF 3 (aM 5 bG (aa (gD1 (fun _=>R.ok (D.tup [D.bl false,D.bl false])) (fun _=>R.ok (D.tup [D.int 0,D.tup []]))) (aa (rvz 0) (aa (rvz 1) (aa (rvz 2) (aa (ciz 0) nlz)))))))
noncomputable def dc (bG aR:List D->R D):Ev->O:=(cw (aM 2 aR (aa (rvz 3) (aa (aH mkT (aa (fun _=>R.ok (D.tup [D.bl false,D.bl false])) (aa (fun _=>R.ok (D.tup [D.bl true,D.bl false])) (aa (fun _=>R.ok (D.tup [D.bl false,D.bl true])) (aa (fun _=>R.ok (D.tup [D.bl true,D.bl true])) nlz))))) nlz))))
noncomputable def ci (bG aR:List D->R D):Ev->O:=(aC (db bG aR) (aC (dc bG aR) oNx))
noncomputable def ff (bG aR:List D->R D):Ev->O:=(eF 4 (aM 5 bG (aa (gD1 (fun _=>R.ok (D.tup [D.bl true,D.bl false])) (fun _=>R.ok (D.tup [D.int 0,D.tup []]))) (aa (rvz 0) (aa (rvz 1) (aa (rvz 2) (aa (rvz 3) nlz)))))))
noncomputable def fj (bG aR:List D->R D):Ev->O:=(eF 5 (aM 2 aR (aa (rvz 4) (aa (aH mkT (aa (fun _=>R.ok (D.tup [D.bl false,D.bl false])) (aa (fun _=>R.ok (D.tup [D.bl true,D.bl false])) (aa (fun _=>R.ok (D.tup [D.bl false,D.bl true])) (aa (fun _=>R.ok (D.tup [D.bl true,D.bl true])) nlz))))) nlz))))
noncomputable def fc (bG aR:List D->R D):Ev->O:=(eF 4 (aM 5 bG (aa (gD1 (fun _=>R.ok (D.tup [D.bl false,D.bl false])) (fun _=>R.ok (D.tup [D.int 0,D.tup []]))) (aa (rvz 0) (aa (gSl (rvz 1) (fun _=>R.ok none) (iy (rvz 3))) (aa (gSl (rvz 2) (fun _=>R.ok none) (iy (rvz 3))) (aa (ciz 0) nlz)))))))
noncomputable def eY (bG aR:List D->R D):Ev->O:=(eF 6 (aM 2 aR (aa (rvz 4) (aa (aH mkT (aa (fun _=>R.ok (D.tup [D.bl false,D.bl false])) (aa (fun _=>R.ok (D.tup [D.bl true,D.bl false])) nlz))) nlz))))
noncomputable def eW (bG aR:List D->R D):Ev->O:=(cw (aH mkT (aa (g2 bR (g2 ixD (rvz 5) (ciz 0)) (g2 ixD (rvz 6) (ciz 0))) (aa (g2 bR (g2 ixD (rvz 5) (ciz 1)) (g2 ixD (rvz 6) (ciz 1))) nlz))))
noncomputable def cS (bG aR:List D->R D):Ev->O:=(aC (ff bG aR) (aC (fj bG aR) (aC (fc bG aR) (aC (eY bG aR) (aC (eW bG aR) oNx)))))
noncomputable def dE (ag bg aQ:List D->R D):Ev->O:=(eF 4 (cu (vJ (aa (aM 4 bg (aa (rvz 0) (aa (rvz 1) (aa (rvz 2) (aa (rvz 3) nlz))))) (aa (aM 3 ag (aa (rvz 0) (aa (rvz 1) (aa (rvz 2) nlz)))) nlz)))))
def dC (ag bg aQ:List D->R D):Ev->O:=(cw (vt (rvz 4) aQ))
noncomputable def cA (ag bg aQ:List D->R D):Ev->O:=(aC (dE ag bg aQ) (aC (dC ag bg aQ) oNx))
noncomputable def wX (aw ax:List D->R D) (au ag aX:List D->R D):Ev->O:=(oW (aM 2 aw (aa (rvz 0) (aa (rvz 1) nlz))))
noncomputable def wl (aw ax:List D->R D) (au ag aX:List D->R D):Ev->O:=(eF 2 (aM 2 ax (aa (rvz 0) (aa (rvz 1) nlz))))
noncomputable def xn (aw ax:List D->R D) (au ag aX:List D->R D):Ev->O:=(eF 3 (g2 ixD (g2 ixD (rvz 0) (ciz 2)) (ciz 0)))
noncomputable def xh (aw ax:List D->R D) (au ag aX:List D->R D):Ev->O:=(BD 4 (FA (aa (g2 ixD (aM 4 au (aa (rvz 3) (aa (g2 ixD (g2 ixD (rvz 0) (ciz 1)) (rvz 3)) (aa (g2 ixD (rvz 2) (rvz 3)) (aa (g2 ixD (g2 ixD (rvz 0) (ciz 2)) (ciz 1)) nlz))))) (ciz 1)) nlz)))
noncomputable def md (aw ax:List D->R D) (au ag aX:List D->R D):Ev->O:=(aC (oIf (gB2 neF (rvz 5) (rvz 3)) (aC (FY 4 (g2 ixD (aM 3 ag (aa (rvz 5) (aa (rvz 6) (aa (g2 ixD (rvz 2) (rvz 5)) nlz)))) (ciz 1))) oNx) oNx) oNx)
noncomputable def xE (aw ax:List D->R D) (au ag aX:List D->R D):Ev->O:=(sK (vT [5,6]) (aH qG (g2 ixD (rvz 0) (ciz 1))) (md aw ax au ag aX))
noncomputable def wQ (aw ax:List D->R D) (au ag aX:List D->R D):Ev->O:=(cw (aM 1 aX (aa (rvz 4) nlz)))
noncomputable def nr (aw ax:List D->R D) (au ag aX:List D->R D):Ev->O:=(aC (wX aw ax au ag aX) (aC (wl aw ax au ag aX) (aC (xn aw ax au ag aX) (aC (xh aw ax au ag aX) (aC (xE aw ax au ag aX) (BB 4 (aC (wQ aw ax au ag aX) oNx)))))))
noncomputable def jV (jg bC:List D->R D):Ev->O:=(cw (aM 1 bC (aa (aM 2 jg (aa (rvz 0) (aa (rvz 1) nlz))) nlz)))
def fG (jg bC:List D->R D):Ev->O:=(aC (jV jg bC) oNx)
abbrev Ky:=Bool×Bool
abbrev Pl:=Nat×List Od
abbrev Mp:=List (Ky×Pl)
def pD (p:Pl):D:=.tup [.int (p.1:Int),.tup (p.2.map oD)]
def kD (k:Ky):D:=.tup [.bl k.1,.bl k.2]
def kN (k:Ky):Nat:=code k.1 k.2
noncomputable def fsD (m:Mp):List (Nat×Fd):=m.map fun z=>(kN z.1,.val (pD z.2))
def kvD (m:Mp):List (Nat×D):=m.map fun z=>(kN z.1,pD z.2)
noncomputable def dD (m:Mp):D:=.dct (m.map fun z=>kN z.1) (m.map fun z=>pD z.2)
noncomputable def yq (k:Ky) (p:Pl):Mp->Mp
 | []=>[(k,p)]
 | (j,x)::r=>if j=k then (j,p)::r else (j,x)::yq k p r
noncomputable def bS (m:Mp) (k:Ky) (p:Pl):Mp:=match m.lookup k with
 | none=>yq k p m
 | some q=>if p.1<q.1 then yq k p m else m
def ky (p:Pl) (o:Od):Pl:=(p.1+bQ o,p.2++[o])
theorem DE {a b:Ky} (h:kN a=kN b):a=b:=by
 obtain ⟨a1,a2⟩:=a;obtain ⟨b1,b2⟩:=b
 revert h;cases a1 <;> cases a2 <;> cases b1 <;> cases b2 <;> simp [kN,code]
theorem mJ (k:Ky):ue (kD k)=some (kN k):=rfl
theorem uH:∀ m:Mp,fvs (fsD m)=some (kvD m)
 | []=>rfl
 | z::m=>by
  show (fvs (fsD m)).map _=_
  rw [uH m];rfl
theorem yZ:∀ m:Mp,(m.map fun z=>kN z.1).zip (m.map fun z=>pD z.2)=kvD m
 | []=>rfl
 | z::m=>congrArg ((kN z.1,pD z.2)::·) (yZ m)
theorem Ea:∀ m:Mp,(m.map fun z=>kN z.1).zip ((m.map fun z=>pD z.2).map Fd.val)=fsD m
 | []=>rfl
 | z::m=>congrArg ((kN z.1,Fd.val (pD z.2))::·) (Ea m)
theorem oE (k:Ky):∀ m:Mp,(kvD m).lookup (kN k)=(m.lookup k).map pD
 | []=>rfl
 | (j,x)::m=>by
  show List.lookup (kN k) ((kN j,pD x)::kvD m)=_
  rw [List.lookup_cons,List.lookup_cons]
  by_cases h:k=j
  ·subst h;rw [beq_self_eq_true,beq_self_eq_true];rfl
  ·rw [beq_eq_false_iff_ne.2 fun z=>h (DE z),beq_eq_false_iff_ne.2 h]
   exact oE k m
theorem Dw (k:Ky) (p:Pl):∀ m:Mp,ug (kN k) (.val (pD p)) (fsD m)=fsD (yq k p m)
 | []=>rfl
 | (j,x)::m=>by
  show (if kN j=kN k then _ else _)=fsD (if j=k then _ else _)
  by_cases h:j=k
  ·subst h;rw [if_pos rfl,if_pos rfl];rfl
  ·rw [if_neg fun z=>h (DE z),if_neg h]
   show (_,_)::ug _ _ (fsD m)=(_,_)::fsD _
   rw [Dw k p m]
theorem GB (m:Mp):(fsD m).length=m.length:=by unfold fsD;simp
def keys (m:Mp):List Ky:=m.map (·.1)
theorem MV:∀ a b c d e:Ky,¬ [a,b,c,d,e].Nodup:=by
 intro ⟨a1,a2⟩ ⟨b1,b2⟩ ⟨c1,c2⟩ ⟨d1,d2⟩ ⟨e1,e2⟩
 revert a1 a2 b1 b2 c1 c2 d1 d2 e1 e2
 decide
theorem few:∀ {l:List Ky},l.Nodup->l.length<=4
 | [],_=>by simp
 | [_],_=>by simp
 | [_,_],_=>by simp
 | [_,_,_],_=>by simp
 | [_,_,_,_],_=>by simp
 | a::b::c::d::e::r,h=>by
  exfalso
  have h':(a::b::c::d::e::r).take 5=[a,b,c,d,e]:=rfl
  exact MV a b c d e (h' ▸ h.sublist (List.take_sublist 5 _))
theorem jJ {k:Ky} {p:Pl}:∀ {m:Mp},m.lookup k=some p->(k,p)∈m
 | (j,x)::m,e=>by
  rw [List.lookup_cons] at e
  by_cases q:k=j
  ·subst q;rw [beq_self_eq_true] at e;cases e;exact List.mem_cons_self ..
  ·rw [beq_eq_false_iff_ne.2 q] at e
   exact List.mem_cons_of_mem _ (jJ e)
theorem wt {k:Ky} {p:Pl}:∀ {m:Mp},keys (yq k p m)=if k∈keys m then keys m else keys m++[k]
 | []=>rfl
 | (j,x)::m=>by
  show keys (if j=k then (j,p)::m else (j,x)::yq k p m)=_
  by_cases q:j=k
  ·rw [if_pos q,if_pos (by rw [<- q];exact List.mem_cons_self ..)];rfl
  ·rw [if_neg q]
   show j::keys (yq k p m)=if k∈j::keys m then j::keys m else j::keys m++[k]
   rw [wt]
   by_cases h:k∈keys m
   ·rw [if_pos h,if_pos (List.mem_cons_of_mem _ h)]
   ·rw [if_neg h,if_neg (fun z=>by rcases List.mem_cons.1 z with z|z;exact q z.symm;exact h z)];rfl
theorem tu {k:Ky} {p:Pl} {m:Mp} (h:(keys m).Nodup):(keys (yq k p m)).Nodup:=by
 rw [wt]
 split
 ·exact h
 ·rename_i q;rw [List.nodup_append]
  exact ⟨h,by simp,fun a ha b hb=>by rw [List.mem_singleton.1 hb];intro z;exact q (z ▸ ha)⟩
theorem wa {k:Ky} {p:Pl} {z:Ky×Pl}:∀ {m:Mp},z∈yq k p m->z∈m\/z=(k,p)
 | [],h=>.inr (List.mem_singleton.1 h)
 | (j,x)::m,h=>by
  replace h:z∈(if j=k then (j,p)::m else (j,x)::yq k p m):=h
  split at h
  ·rename_i q;subst q
   rcases List.mem_cons.1 h with h|h
   ·exact .inr h
   ·exact .inl (List.mem_cons_of_mem _ h)
  ·rcases List.mem_cons.1 h with h|h
   ·exact .inl (h ▸ List.mem_cons_self ..)
   ·rcases wa h with h|h
    ·exact .inl (List.mem_cons_of_mem _ h)
    ·exact .inr h
theorem qw {k j:Ky} {p:Pl}:∀ {m:Mp},(yq k p m).lookup j=if j=k then some p else m.lookup j
 | []=>by
  show List.lookup j [(k,p)]=_
  rw [List.lookup_cons]
  by_cases q:j=k
  ·rw [if_pos q,q,beq_self_eq_true]
  ·rw [if_neg q,beq_eq_false_iff_ne.2 q]
 | (i,x)::m=>by
  show List.lookup j (if i=k then (i,p)::m else (i,x)::yq k p m)=_
  by_cases q:i=k
  ·subst q
   rw [if_pos rfl,List.lookup_cons,List.lookup_cons]
   by_cases z:j=i
   ·rw [if_pos z,z,beq_self_eq_true]
   ·rw [if_neg z,beq_eq_false_iff_ne.2 z]
  ·rw [if_neg q,List.lookup_cons,List.lookup_cons]
   by_cases z:j=i
   ·rw [z,beq_self_eq_true];dsimp only;rw [if_neg q]
   ·rw [beq_eq_false_iff_ne.2 z];exact qw
theorem iH {m:Mp} {k j:Ky} {p:Pl}:(bS m k p).lookup j=if j=k then (match m.lookup k with
  | none=>some p
  | some q=>if p.1<q.1 then some p else some q) else m.lookup j:=by
 unfold bS
 cases e:m.lookup k with
 | none=>dsimp only;exact qw
 | some q=>
  dsimp only
  by_cases h:p.1<q.1
  ·rw [if_pos h,if_pos h];exact qw
  ·rw [if_neg h,if_neg h]
   by_cases z:j=k
   ·rw [if_pos z,z,e]
   ·rw [if_neg z]
theorem fX {m:Mp} {k:Ky} {p:Pl} (h:(keys m).Nodup):(keys (bS m k p)).Nodup:=by
 unfold bS
 split
 ·exact tu h
 ·split
  ·exact tu h
  ·exact h
theorem zt {m:Mp} {k:Ky} {p:Pl} {z:Ky×Pl} (h:z∈bS m k p):z∈m\/z=(k,p):=by
 unfold bS at h
 split at h
 ·exact wa h
 ·split at h
  ·exact wa h
  ·exact .inl h
def All (P:Ky->Pl->Prop) (m:Mp):Prop:=∀ z∈m,P z.1 z.2
theorem All.offer {P:Ky->Pl->Prop} {m:Mp} {k:Ky} {p:Pl} (h:All P m) (hp:P k p):All P (bS m k p):=fun z hz=>by
 rcases zt hz with q|q
 ·exact h z q
 ·subst q;exact hp
theorem All.at {P:Ky->Pl->Prop} {m:Mp} {k:Ky} {p:Pl} (h:All P m) (e:m.lookup k=some p):P k p:=h _ (jJ e)
noncomputable abbrev dO (q:Addr) (m:Mp):Option Sl:=some (.obj true DC q (fsD m))
theorem DR {n:Nat} (h1:ge ρ=.ok d) (h2:ue d=some n) (h3:tz ρ i=.ok kv):rA neg i ge ρ=.ok (if neg then !(kv.lookup n).isSome else (kv.lookup n).isSome):=by
 unfold rA;rw [h1,R.ok_bind,h2,cG,R.ok_bind,h3,R.ok_bind]
theorem Bt {v:D} {n:Nat} (h3:tz ρ i=.ok kv) (h1:ge ρ=.ok d) (h2:ue d=some n) (h4:kv.lookup n=some v):ij i ge ρ=.ok v:=by
 unfold ij;rw [h3,R.ok_bind,h1,R.ok_bind,h2]
 show ofO (kv.lookup n)=_
 rw [h4];rfl
theorem wT {b:Bool} {p:Addr} {m:Mp} (h:ρ[i]?=some (some (.obj b DC p (fsD m)))):tz ρ i=.ok (kvD m):=by
 unfold tz;rw [h];dsimp only;rw [if_pos rfl,uH];rfl
theorem Cc {m:Mp} (h:ρ[i]?=some (vD (dD m))):tz ρ i=.ok (kvD m):=by
 unfold tz;rw [h];unfold dD;dsimp only;rw [yZ]
theorem FU {gk ga:Ev->R D} {m:Mp} {k:Ky} {p:Pl} (h:ρ[i]?=some (dO q m)) (hd:ga ρ=.ok (pD p)) (hk:gk ρ=.ok (kD k)) (hl:m.length<900) :
  Cj i gk ga ρ=.nx (ρ.set i (dO q (yq k p m))):=by
 unfold Cj
 rw [Fm h,R.ok_out,hd,mT,R.ok_out,hk,mT,R.ok_out,mJ]
 dsimp only
 rw [if_pos (by rw [GB];exact hl),Dw]
theorem Bw {b:Bool} {m:Mp} {k:Ky} (h:ρ[i]?=some (some (.obj b DC q (fsD m)))) (hk:ge ρ=.ok (kD k)):rA neg i ge ρ=.ok (if neg then !(m.lookup k).isSome else (m.lookup k).isSome):=by
 rw [DR hk (mJ k) (wT h),oE,Option.isSome_map]
theorem xu {b:Bool} {m:Mp} {k:Ky} {p:Pl} (h:ρ[i]?=some (some (.obj b DC q (fsD m)))) (hk:ge ρ=.ok (kD k)) (e:m.lookup k=some p):ij i ge ρ=.ok (pD p):=
 Bt (wT h) hk (mJ k) (by rw [oE,e];rfl)
def pcF:List D->R D:=fun ds=>aq (gz (ar 1 ds))
theorem CQ (p:Pl):pcF [pD p]=.ok (.int (p.1:Int)):=rfl
theorem xH (q:Addr) (m:Mp) (k:Ky) (p:Pl) (hl:m.length<900) :
  fO pcF [dO q m,vD (kD k),vD (pD p)]=.nx [dO q (bS m k p),vD (kD k),vD (pD p)]:=by
 unfold fO wF
 have h1:=Bw (neg:=true) (i:=0) (ge:=fun ρ=>rdV ρ 1) (ρ:=[dO q m,vD (kD k),vD (pD p)]) (k:=k) rfl rfl
 have h2:=FU (i:=0) (gk:=fun ρ=>rdV ρ 1) (ga:=fun ρ=>rdV ρ 2) (ρ:=[dO q m,vD (kD k),vD (pD p)]) (k:=k) (p:=p) rfl rfl rfl hl
 have h3:=CQ p
 unfold bS
 cases e:m.lookup k with
 | none=>
  rw [e] at h1
  dsimp only [Option.isSome_none,Bool.not_false,if_true] at h1
  clear e hl
  walk_at "run"
 | some p0=>
  rw [e] at h1
  have h4:=xu (i:=0) (ge:=fun ρ=>rdV ρ 1) (ρ:=[dO q m,vD (kD k),vD (pD p)]) rfl rfl e
  have h5:=CQ p0
  dsimp only [Option.isSome_some,Bool.not_true,if_true] at h1
  have h6:ltD (.int (p.1:Int)) (.int (p0.1:Int))=some (.bl (decide (p.1<p0.1))):=by
   show some (D.bl (decide ((p.1:Int)<(p0.1:Int))))=_
   rw [show decide ((p.1:Int)<(p0.1:Int))=decide (p.1<p0.1) from decide_eq_decide.2 Int.ofNat_lt]
  clear e hl
  by_cases h:p.1<p0.1
  ·rw [decide_eq_true h] at h6
   dsimp only
   rw [if_pos h]
   clear h
   walk_at "run"
  ·rw [decide_eq_false h] at h6
   dsimp only
   rw [if_neg h]
   clear h
   walk_at "run"
noncomputable def M2 (ρ:Ev):RM:=match (ρ[0]?:Option (Option Sl)) with
 | some (some (.obj _ _ _ fs))=>.ok .non fs
 | _=>.no
def JH (o:O):RM:=match o with
 | .nx ρ=>M2 ρ
 | _=>.no
open Classical in
noncomputable def cV:MF:=fun fs ds=>if ∃ m k p,fs=fsD m/\ds=[kD k,pD p]/\m.length<900 then JH (fO pcF (eZ true DC 0 fs 3 ds)) else .no
theorem qh {m:Mp} (k:Ky) (p:Pl) (hl:m.length<900):cV (fsD m) [kD k,pD p]=.ok .non (fsD (bS m k p)):=by
 unfold cV
 rw [if_pos ⟨m,k,p,rfl,rfl,hl⟩]
 show JH (fO pcF [some (.obj true DC 0 (fsD m)),vD (kD k),vD (pD p)])=_
 rw [xH 0 m k p hl];rfl
theorem B9:sQ DC (fO pcF) 3 cV:=by
 intro q fs ds
 by_cases h:∃ m k p,fs=fsD m/\ds=[kD k,pD p]/\m.length<900
 ·obtain ⟨m,k,p,rfl,rfl,hl⟩:=h
  rw [qh k p hl]
  exact ⟨_,rfl,.inr ⟨xH q m k p hl,rfl⟩⟩
 ·have e:cV fs ds=.no:=by unfold cV;exact if_neg h
  rw [e];trivial
theorem Dm {n:Nat} {F:MF} {p:Addr} {fs:List (Nat×Fd)} (ho:ρ[i]?=some (some (.obj true C p fs))) (ha:gl ρ=.ok ds) (hl:ds.length=n) (hF:F fs ds=.ok d fs'):eV (jW C i n F gl) ρ=.nx (ρ.set i (some (.obj true C p fs'))):=by
 unfold eV;rw [BG ho ha hl hF];rfl
theorem Ko {p:Pl} {o:Od} (h:p.2.length<900):bR (.tup (p.2.map oD)) (.tup [oD o])=some (.tup ((p.2++[o]).map oD)):=by
 have h1:1000<=sizeLine:=by decide
 show (if _ then _ else _)=_
 rw [if_pos (by simp;omega)]
 simp
theorem DZ (q:Addr) (m:Mp) (k:Ky) (p:Pl) (o:Od) (hl:m.length<900) (hp:p.2.length<900) :
  bx cV ocG [dO q m,vD (kD k),vD (pD p),vD (oD o)]=.nx [dO q (bS m k (ky p o)),vD (kD k),vD (pD p),vD (oD o)]:=by
 unfold bx eD
 show (eV (jW DC 0 2 cV _) _).seq _=_
 rw [Dm (n:=2) (ds:=[kD k,pD (ky p o)]) (d:=.non) (fs':=fsD (bS m k (ky p o))) rfl ?_ rfl (qh k (ky p o) hl)]
 ·rfl
 ·have h1:=Mf o
  have h2:=Ko (p:=p) (o:=o) hp
  have h3:ixD (pD p) (.int 0)=some (.int (p.1:Int)):=rfl
  have h4:ixD (pD p) (.int 1)=some (.tup (p.2.map oD)):=rfl
  have h5:bR (.int (p.1:Int)) (.int (bQ o:Int))=some (.int ((p.1+bQ o:Nat):Int)):=rfl
  have h6:mkT [oD o]=.ok (.tup [oD o]):=rfl
  have h7:mkT [.int ((p.1+bQ o:Nat):Int),.tup ((p.2++[o]).map oD)]=.ok (pD (ky p o)):=rfl
  clear hl hp
  walk_at "run"
open Classical in
noncomputable def kf:MF:=fun fs ds=>if ∃ m k p o,fs=fsD m/\ds=[kD k,pD p,oD o]/\m.length<900/\p.2.length<900 then JH (bx cV ocG (eZ true DC 0 fs 4 ds)) else .no
theorem Am {m:Mp} (k:Ky) {p:Pl} (o:Od) (hl:m.length<900) (hp:p.2.length<900):kf (fsD m) [kD k,pD p,oD o]=.ok .non (fsD (bS m k (ky p o))):=by
 unfold kf
 rw [if_pos ⟨m,k,p,o,rfl,rfl,hl,hp⟩]
 show JH (bx cV ocG [some (.obj true DC 0 (fsD m)),vD (kD k),vD (pD p),vD (oD o)])=_
 rw [DZ 0 m k p o hl hp];rfl
theorem ja:sQ DC (bx cV ocG) 4 kf:=by
 intro q fs ds
 by_cases h:∃ m k p o,fs=fsD m/\ds=[kD k,pD p,oD o]/\m.length<900/\p.2.length<900
 ·obtain ⟨m,k,p,o,rfl,rfl,hl,hp⟩:=h
  rw [Am k o hl hp]
  exact ⟨_,rfl,.inr ⟨DZ q m k p o hl hp,rfl⟩⟩
 ·have e:kf fs ds=.no:=by unfold kf;exact if_neg h
  rw [e];trivial
noncomputable def move (m:Mp) (a b:Ky) (o:Od):Mp:=match m.lookup a with
 | some p=>bS m b (ky p o)
 | none=>m
noncomputable def jF (m:Mp) (n c:Nat):Mp:=move (move (move m (false,false) (true,false) (.go n c)) (true,false) (true,true) .wipe) (false,true) (true,true) (.go n c)
noncomputable def Len (J:Nat) (m:Mp):Prop:=All (fun _ p=>p.2.length<=J) m
theorem Len.mono {K:Nat} {m:Mp} (h:Len J m) (l:J<=K):Len K m:=fun z hz=>Nat.le_trans (h z hz) l
theorem Len.move {J:Nat} {m:Mp} (h:Len J m) (a b:Ky) (o:Od):Len (J+1) (move m a b o):=by
 unfold Q.move
 cases e:m.lookup a with
 | none=>exact h.mono (Nat.le_succ _)
 | some p=>exact All.offer (h.mono (Nat.le_succ _)) (by have:=All.at h e;simp only [ky,List.length_append,List.length_singleton];omega)
theorem pG {m:Mp} (h:(keys m).Nodup) (a b:Ky) (o:Od):(keys (move m a b o)).Nodup:=by
 unfold move
 split
 ·exact fX h
 ·exact h
theorem GA {m:Mp} (h:(keys m).Nodup):m.length<=4:=by have:=few h;rwa [keys,List.length_map] at this
theorem ul {x0 x1 x2:Option Sl} {m:Mp} (a b:Ky) {o:Od} {go:Ev->R D} (hgo:go [x0,x1,x2,dO q m]=.ok (oD o)) (hn:(keys m).Nodup) (hp:Len J m) (hJ:J<900) :
  oIf (rA false 3 (fun _=>R.ok (kD a))) (aC (eV (jW DC 3 3 kf (aa (fun _=>R.ok (kD b)) (aa (ij 3 (fun _=>R.ok (kD a))) (aa go nlz))))) oNx) oNx [x0,x1,x2,dO q m] =
   .nx [x0,x1,x2,dO q (move m a b o)]:=by
 have h1:=Bw (neg:=false) (i:=3) (ge:=fun _=>R.ok (kD a)) (ρ:=[x0,x1,x2,dO q m]) (k:=a) rfl rfl
 have hl:=GA hn
 unfold move
 cases e:m.lookup a with
 | none=>
  rw [e] at h1
  dsimp only [Option.isSome_none,Bool.false_eq_true,if_false] at h1 ⊢
  clear e hl hp
  walk_at "run"
 | some p=>
  rw [e] at h1
  dsimp only [Option.isSome_some,Bool.false_eq_true,if_false] at h1 ⊢
  have h2:=xu (i:=3) (ge:=fun _=>R.ok (kD a)) (ρ:=[x0,x1,x2,dO q m]) rfl rfl e
  have h4:eV (jW DC 3 3 kf (aa (fun _=>R.ok (kD b)) (aa (ij 3 (fun _=>R.ok (kD a))) (aa go nlz)))) [x0,x1,x2,dO q m]=.nx [x0,x1,x2,dO q (bS m b (ky p o))]:=by
   refine Dm (ds:=[kD b,pD p,oD o]) (d:=.non) rfl ?_ rfl (Am b o (by omega) (by have:=All.at hp e;omega))
   clear hl hp e h1
   walk_at "run"
  clear e hl hp h2 hgo
  walk_at "run"
theorem zc {m:Mp} (h:ρ[i]?=some (dO q m)):tB i ρ=.rt (dD m):=by
 unfold tB;rw [h];dsimp only;rw [if_pos rfl,uH]
 show O.rt (.dct ((kvD m).map (·.1)) ((kvD m).map (·.2)))=_
 unfold kvD dD;simp only [List.map_map];rfl
theorem HC (q:Addr×Unit) {m:Mp} (n c:Nat) (hm:m≠[]) (hn:(keys m).Nodup) (hp:Len J m) (hJ:J<890):cq kf q (ar 4 [dD m,.int (n:Int),.int (c:Int)])=.rt (dD (jF m n c)):=by
 have h0:cq kf q (ar 4 [dD m,.int (n:Int),.int (c:Int)])=dW kf [vD (dD m),vI n,vI c,some (.obj true DC q.1 (fsD m))]:=by
  cases m with
  | nil=>exact absurd rfl hm
  | cons z r=>
   show dW kf [_,_,_,some (.obj true DC q.1 ((((z::r:Mp).map fun z=>kN z.1)).zip ((((z::r:Mp).map fun z=>pD z.2)).map Fd.val)))]=_
   rw [Ea]
 rw [h0]
 have h1:=ul (x0:=vD (dD m)) (x1:=vI n) (x2:=vI c) (q:=q.1) (false,false) (true,false) (o:=.go n c) (go:=aH mkT (aa (csz [103,111]) (aa (rvz 1) (aa (rvz 2) nlz)))) rfl hn hp (by omega)
 have n1:=pG hn (false,false) (true,false) (.go n c)
 have l1:=hp.move (false,false) (true,false) (.go n c)
 have h2:=ul (x0:=vD (dD m)) (x1:=vI n) (x2:=vI c) (q:=q.1) (true,false) (true,true) (o:=.wipe) (go:=aH mkT (aa (csz [119,105,112,101]) nlz)) rfl n1 l1 (by omega)
 have n2:=pG n1 (true,false) (true,true) .wipe
 have l2:=l1.move (true,false) (true,true) .wipe
 have h3:=ul (x0:=vD (dD m)) (x1:=vI n) (x2:=vI c) (q:=q.1) (false,true) (true,true) (o:=.go n c) (go:=aH mkT (aa (csz [103,111]) (aa (rvz 1) (aa (rvz 2) nlz)))) rfl n2 l2 (by omega)
 unfold dW
 show (dS kf _).seq _=_
 rw [show dS kf _=_ from h1]
 show (dJ kf _).seq _=_
 rw [show dJ kf _=_ from h2]
 show (dN kf _).seq _=_
 rw [show dN kf _=_ from h3]
 show (tB 3 _).seq _=_
 rw [zc (q:=q.1) (m:=jF m n c) rfl];rfl
open Classical in
noncomputable def wmF:List D->R D:=fun ds=>if ∃ m,∃ n c:Nat,ds=[dD m,.int (n:Int),.int (c:Int)]/\m≠[]/\(keys m).Nodup/\Len 880 m then aq (cq kf (0,()) (ar 4 ds)) else .no
theorem IK {m:Mp} (n c:Nat) (hm:m≠[]) (hn:(keys m).Nodup) (hp:Len J m) (hJ:J<=880):wmF [dD m,.int (n:Int),.int (c:Int)]=.ok (dD (jF m n c)):=by
 unfold wmF
 rw [if_pos ⟨m,n,c,rfl,hm,hn,hp.mono hJ⟩,HC _ n c hm hn hp (by omega)];rfl
theorem qv:∀ ds:List D,ds.length=3->wmF ds=.no\/∀ q,aq (cq kf q (ar 4 ds))=wmF ds:=by
 intro ds _
 by_cases h:∃ m,∃ n c:Nat,ds=[dD m,.int (n:Int),.int (c:Int)]/\m≠[]/\(keys m).Nodup/\Len 880 m
 ·obtain ⟨m,n,c,rfl,hm,hn,hp⟩:=h
  refine .inr fun q=>?_
  rw [IK n c hm hn hp (Nat.le_refl _),HC q n c hm hn hp (by omega)];rfl
 ·exact .inl (by unfold wmF;exact if_neg h)
noncomputable def und (old:Nat) (b:Bool):Nat:=match b with
 | true=>32
 | false=>old
theorem eJ {g h:Ev->O} {ρ1:Ev} (e:g ρ=.nx ρ1):aC g h ρ=h ρ1:=by show (g ρ).seq h=_;rw [e];rfl
noncomputable def sovK (old new:Nat) (acc:Mp) (z:Ky×Pl):Mp:=
 let a1:=if z.1.1=true then bS acc (true,z.1.2) (ky z.2 (.say [new])) else acc
 if und old z.1.2=new then bS a1 (false,z.1.2) z.2 else a1
def A9 (old new:Nat) (m:Mp):Mp:=m.foldl (sovK old new) []
theorem pM {old new:Nat} {acc:Mp} {z:Ky×Pl} (h:(keys acc).Nodup):(keys (sovK old new acc z)).Nodup:=by
 unfold sovK
 have h1:(keys (if z.1.1=true then bS acc (true,z.1.2) (ky z.2 (.say [new])) else acc)).Nodup:=by
  split
  ·exact fX h
  ·exact h
 dsimp only
 split
 ·exact fX h1
 ·exact h1
theorem lY {α:Type} {P:Mp->Prop} {f:Mp->α->Mp}:∀ {l:List α} {a:Mp},P a->(∀ a x,x∈l->P a->P (f a x))->P (l.foldl f a)
 | [],_,h,_=>h
 | x::l,a,h,H=>lY (l:=l) (H a x (List.mem_cons_self ..) h) fun a y hy=>H a y (List.mem_cons_of_mem _ hy)
theorem yE {old new:Nat} {m:Mp}:(keys (A9 old new m)).Nodup:=lY (P:=fun m=>(keys m).Nodup) List.Pairwise.nil fun _ _ _ h=>pM h
theorem pU {old new:Nat} {m:Mp} {P R:Ky->Pl->Prop} (h:All P m) (h1:∀ k p,P k p->k.1=true->R (true,k.2) (ky p (.say [new]))) (h2:∀ k p,P k p->und old k.2=new->R (false,k.2) p):All R (A9 old new m):=by
 refine lY (P:=All R) (fun z hz=>nomatch hz) fun a x hx ha=>?_
 unfold sovK
 dsimp only
 have g1:All R (if x.1.1=true then bS a (true,x.1.2) (ky x.2 (.say [new])) else a):=by
  split
  ·rename_i q;exact All.offer ha (h1 _ _ (h x hx) q)
  ·exact ha
 split
 ·rename_i q;exact All.offer g1 (h2 _ _ (h x hx) q)
 ·exact g1
theorem Af {x0 x6:Option Sl} {acc:Mp} (old new:Nat) (k:Ky) (p:Pl) (hn:(keys acc).Nodup) (hp:p.2.length<900) :
  cY kf cV [x0,vS [old],vS [new],dO q acc,vD (kD k),vD (pD p),x6] =
   .nx [x0,vS [old],vS [new],dO q (sovK old new acc (k,p)),vD (kD k),vD (pD p),vD (.bl k.2)]:=by
 obtain ⟨k1,k2⟩:=k
 unfold cY sovK
 have i1:ixD (kD (k1,k2)) (.int 1)=some (.bl k2):=rfl
 have i0:ixD (kD (k1,k2)) (.int 0)=some (.bl k1):=rfl
 have fin:∀ a1:Mp,(keys a1).Nodup->oIf (gB2 eqF (gIf (aH kn (rvz 6)) (csz [32]) (rvz 1)) (rvz 2)) (aC (eV (jW DC 3 2 cV (aa (aH mkT (aa (fun _=>R.ok (D.bl false)) (aa (rvz 6) nlz))) (aa (rvz 5) nlz)))) oNx) oNx
   [x0,vS [old],vS [new],dO q a1,vD (kD (k1,k2)),vD (pD p),vD (.bl k2)] =
   .nx [x0,vS [old],vS [new],dO q (if und old k2=new then bS a1 (false,k2) p else a1),vD (kD (k1,k2)),vD (pD p),vD (.bl k2)]:=by
  intro a1 n1
  have hl:=GA n1
  have h4:=Dm (C:=DC) (i:=3) (n:=2) (F:=cV) (gl:=aa (aH mkT (aa (fun _=>R.ok (D.bl false)) (aa (rvz 6) nlz))) (aa (rvz 5) nlz)) (ρ:=[x0,vS [old],vS [new],dO q a1,vD (kD (k1,k2)),vD (pD p),vD (.bl k2)]) (ds:=[kD (false,k2),pD p]) (d:=.non) rfl rfl rfl (qh (false,k2) p (by omega))
  have h6:∀ y:Nat,eqF (.str [y]) (.str [new])=some (.bl (decide (y=new))):=fun y=>by
   rw [L4];congr 2
   by_cases z:y=new
   ·rw [z,beq_self_eq_true,decide_eq_true rfl]
   ·rw [decide_eq_false z,beq_eq_false_iff_ne];intro y;exact z (by injection y)
  clear i1 i0 hl hp hn
  have h7:=h6 (und old k2)
  clear h6
  by_cases z:und old k2=new
  ·rw [decide_eq_true z] at h7
   rw [if_pos z]
   clear z
   cases k2 <;> dsimp only [und] at h7 <;> walk_at "run"
  ·rw [decide_eq_false z] at h7
   rw [if_neg z]
   clear z
   cases k2 <;> dsimp only [und] at h7 <;> walk_at "run"
 have hl:=GA hn
 cases k1 with
 | true=>
  have f1:=fin (bS acc (true,k2) (ky p (.say [new]))) (fX hn)
  have h4:=Dm (C:=DC) (i:=3) (n:=3) (F:=kf) (gl:=aa (aH mkT (aa (fun _=>R.ok (D.bl true)) (aa (rvz 6) nlz))) (aa (rvz 5) (aa (aH mkT (aa (csz [115,97,121]) (aa (rvz 2) nlz))) nlz))) (ρ:=[x0,vS [old],vS [new],dO q acc,vD (kD (true,k2)),vD (pD p),vD (.bl k2)]) (ds:=[kD (true,k2),pD p,oD (.say [new])]) (d:=.non) rfl rfl rfl (Am (true,k2) (.say [new]) (by omega) hp)
  refine (eJ (ρ1:=[x0,vS [old],vS [new],dO q acc,vD (kD (true,k2)),vD (pD p),vD (.bl k2)]) ?_).trans ?_
  ·rfl
  refine (eJ (ρ1:=[x0,vS [old],vS [new],dO q (bS acc (true,k2) (ky p (.say [new]))),vD (kD (true,k2)),vD (pD p),vD (.bl k2)]) ?_).trans ?_
  ·clear fin f1 hl hn hp
   walk_at "run"
  exact eJ f1
 | false=>
  have f1:=fin acc hn
  refine (eJ (ρ1:=[x0,vS [old],vS [new],dO q acc,vD (kD (false,k2)),vD (pD p),vD (.bl k2)]) ?_).trans ?_
  ·rfl
  refine (eJ (ρ1:=[x0,vS [old],vS [new],dO q acc,vD (kD (false,k2)),vD (pD p),vD (.bl k2)]) ?_).trans ?_
  ·rfl
  exact eJ f1
theorem Gc (k:Ky):Dy (kN k)=kD k:=tU k.1 k.2
theorem De (m:Mp):zv (dD m)=.ok (m.map fun z=>.tup [kD z.1,pD z.2]):=by
 show R.ok ((((m.map fun z=>kN z.1)).zip ((m.map fun z=>pD z.2))).map fun z=>D.tup [Dy z.1,z.2])=_
 rw [yZ];unfold kvD;rw [List.map_map]
 congr 1
 refine List.map_congr_left fun z _=>?_
 show D.tup [Dy (kN z.1),_]=_
 rw [Gc]
theorem tO {x0:Option Sl} {q:Addr} (old new:Nat):∀ (m acc:Mp) (x4 x5 x6:Option Sl),(keys acc).Nodup->Len 890 m->∃ y4 y5 y6,cH (vT [4,5]) (cY kf cV) (m.map fun z=>.tup [kD z.1,pD z.2]) [x0,vS [old],vS [new],dO q acc,x4,x5,x6] =
  .nx [x0,vS [old],vS [new],dO q (m.foldl (sovK old new) acc),y4,y5,y6]
 | [],acc,x4,x5,x6,_,_=>⟨x4,x5,x6,rfl⟩
 | (k,p)::m,acc,x4,x5,x6,hn,hp=>by
  obtain ⟨y4,y5,y6,ih⟩:=tO old new m (sovK old new acc (k,p)) (vD (kD k)) (vD (pD p)) (vD (.bl k.2)) (pM hn) fun z hz=>hp z (List.mem_cons_of_mem _ hz)
  refine ⟨y4,y5,y6,?_⟩
  rw [List.map_cons,eR (ρ1:=[x0,vS [old],vS [new],dO q acc,vD (kD k),vD (pD p),x6]) rfl (Af old new k p hn (by have:=hp (k,p) (List.mem_cons_self ..);dsimp only at this;omega))]
  exact ih
theorem GV (q:Addr×Unit) {m:Mp} (old new:Nat) (hp:Len 890 m):cm kf cV q (ar 7 [dD m,.str [old],.str [new]])=.rt (dD (A9 old new m)):=by
 obtain ⟨y4,y5,y6,h⟩:=tO (x0:=vD (dD m)) (q:=q.1) old new m [] none none none List.Pairwise.nil hp
 show (cz kf cV [vD (dD m),vS [old],vS [new],some (.obj true DC q.1 (fsD [])),none,none,none]).seq (aC (eG kf cV) oNx)=_
 have e:cz kf cV [vD (dD m),vS [old],vS [new],some (.obj true DC q.1 (fsD [])),none,none,none]=.nx [vD (dD m),vS [old],vS [new],some (.obj true DC q.1 (fsD (A9 old new m))),y4,y5,y6]:=by
  have h2:=De m
  unfold cz
  walk_at "run"
  rfl
 rw [e]
 show (tB 3 _).seq _=_
 rw [zc (q:=q.1) (m:=A9 old new m) rfl];rfl
open Classical in
noncomputable def soF:List D->R D:=fun ds=>if ∃ m,∃ old new:Nat,ds=[dD m,.str [old],.str [new]]/\Len 890 m then aq (cm kf cV (0,()) (ar 7 ds)) else .no
theorem Jy {m:Mp} (old new:Nat) (hp:Len 890 m):soF [dD m,.str [old],.str [new]]=.ok (dD (A9 old new m)):=by
 unfold soF
 rw [if_pos ⟨m,old,new,rfl,hp⟩,GV _ old new hp];rfl
theorem ny:∀ ds:List D,ds.length=3->soF ds=.no\/∀ q,aq (cm kf cV q (ar 7 ds))=soF ds:=by
 intro ds _
 by_cases h:∃ m,∃ old new:Nat,ds=[dD m,.str [old],.str [new]]/\Len 890 m
 ·obtain ⟨m,old,new,rfl,hp⟩:=h
  refine .inr fun q=>?_
  rw [Jy old new hp,GV q old new hp];rfl
 ·exact .inl (by unfold soF;exact if_neg h)
noncomputable def xS (n:Nat) (old new:List Nat) (m:Mp) (c:Nat):Mp:=A9 (old.getD c 0) (new.getD c 0) (jF m n c)
noncomputable def eU (n:Nat) (old new:List Nat) (b:Nat) (m:Mp):Mp:=(List.range' b (old.length - b)).foldl (xS n old new) m
theorem iI {m:Mp} {k j:Ky} {p:Pl} (h:m.lookup j≠none):(bS m k p).lookup j≠none:=by
 rw [iH]
 split
 ·split
  ·exact fun z=>nomatch z
  ·split <;> exact fun z=>nomatch z
 ·exact h
theorem me {m:Mp} {k:Ky} {p:Pl}:(bS m k p).lookup k≠none:=by
 rw [iH,if_pos rfl]
 split
 ·exact fun z=>nomatch z
 ·split <;> exact fun z=>nomatch z
theorem oC {m:Mp} {a b j:Ky} {o:Od} (h:m.lookup j≠none):(move m a b o).lookup j≠none:=by
 unfold move
 split
 ·exact iI h
 ·exact h
theorem BH {m:Mp} {a b:Ky} {o:Od} (h:m.lookup a≠none):(move m a b o).lookup b≠none:=by
 unfold move
 split
 ·exact me
 ·rename_i e;exact absurd e h
theorem za {old new:Nat} {acc:Mp} {z:Ky×Pl} {j:Ky} (h:acc.lookup j≠none):(sovK old new acc z).lookup j≠none:=by
 unfold sovK
 have h1:(if z.1.1=true then bS acc (true,z.1.2) (ky z.2 (.say [new])) else acc).lookup j≠none:=by
  split
  ·exact iI h
  ·exact h
 dsimp only
 split
 ·exact iI h1
 ·exact h1
theorem B7 {old new:Nat} {m:Mp} (h:m.lookup (true,false)≠none):(A9 old new m).lookup (true,false)≠none:=by
 cases e:m.lookup (true,false) with
 | none=>exact absurd e h
 | some p=>
  have hm:=jJ e
  have go:∀ (l:Mp) (acc:Mp),((true,false),p)∈l\/acc.lookup (true,false)≠none->(l.foldl (sovK old new) acc).lookup (true,false)≠none:=by
   intro l
   induction l with
   | nil=>intro acc h;rcases h with h|h;exact nomatch h;exact h
   | cons z l ih=>
    intro acc h
    refine ih _ ?_
    rcases h with h|h
    ·rcases List.mem_cons.1 h with h|h
     ·subst h
      refine .inr ?_
      unfold sovK
      dsimp only
      rw [if_pos rfl]
      split
      ·exact iI me
      ·exact me
     ·exact .inl h
    ·exact .inr (za h)
  exact go m [] (.inl hm)
structure Gd (J:Nat) (m:Mp):Prop where
 nd:(keys m).Nodup
 ne:m.lookup (true,false)≠none\/m.lookup (false,false)≠none
 len:Len J m
theorem Gd.nn {m:Mp} (g:Gd J m):m≠[]:=fun e=>by
 subst e;rcases g.ne with h|h <;> exact h rfl
theorem yi {m:Mp} (g:Gd J m) (n c:Nat):(jF m n c).lookup (true,false)≠none:=by
 unfold jF
 refine oC (oC ?_)
 rcases g.ne with h|h
 ·exact oC h
 ·exact BH h
theorem Len.moves {m:Mp} (h:Len J m) (n c:Nat):Len (J+3) (jF m n c):=((h.move _ _ _).move _ _ _).move _ _ _
theorem Len.sov {m:Mp} (h:Len J m) (old new:Nat):Len (J+1) (A9 old new m):=
 pU (P:=fun _ p=>p.2.length<=J) h (fun k p hp _=>by simp only [ky,List.length_append,List.length_singleton];omega) fun k p hp _=>Nat.le_succ_of_le hp
theorem Gd.col {m:Mp} (g:Gd J m) (n c:Nat) (old new:List Nat):Gd (J+4) (xS n old new m c):=
 ⟨yE,.inl (B7 (yi g n c)),(g.len.moves n c).sov _ _⟩
theorem yp {a b:Nat} (h:a+b<=1000):jp [.int (a:Int),.int ((a+b:Nat):Int)]=.ok ((List.range' a b).map fun (i:Nat)=>D.int (i:Int)):=by
 have e:jp [.int (a:Int),.int ((a+b:Nat):Int)]=if -(2 ^ 62)<=(a:Int)/\(a:Int)<2 ^ 62/\-(2 ^ 62)<=((a+b:Nat):Int)/\((a+b:Nat):Int)<2 ^ 62 then .ok ((List.range (((a+b:Nat):Int) - (a:Int)).toNat).map fun k=>D.int ((a:Int)+(k:Nat))) else .no:=by simp only [jp]
 rw [e,if_pos (by refine ⟨?_,?_,?_,?_⟩ <;> omega),show (((a+b:Nat):Int) - (a:Int)).toNat=b by omega,List.range'_eq_map_range,List.map_map]
 refine congrArg R.ok (List.map_congr_left fun k _=>?_)
 simp
theorem iJ {x:List Nat} {c:Nat} (h:c<x.length):x[c]?=some (x.getD c 0):=by
 rw [List.getD_eq_getElem?_getD,List.getElem?_eq_getElem h];rfl
theorem Gw {x0 x4:Option Sl} {m:Mp} (g:Gd J m) (n c:Nat) {new:List Nat} (h1:c<old.length) (h2:c<new.length) (hJ:J<=880) :
  lX wmF soF [x0,vI n,vS old,vS new,x4,vD (dD m),vI c]=.nx [x0,vI n,vS old,vS new,x4,vD (dD (xS n old new m c)),vI c]:=by
 have e1:=IK n c g.nn g.nd g.len hJ
 have e2:=Jy (m:=jF m n c) (old.getD c 0) (new.getD c 0) ((g.len.moves n c).mono (by omega))
 have e3:=JT (iJ h1)
 have e4:=JT (iJ h2)
 unfold lX xS
 clear h1 h2 hJ g
 walk_at "run"
theorem zD {x0 x4:Option Sl} (n:Nat) {old new:List Nat} (hl:new.length=old.length):∀ (k b J:Nat) (m:Mp) (x6:Option Sl),b+k<=old.length->Gd J m->J+4 * k<=880->∃ y6,cH (kU 6) (lX wmF soF) ((List.range' b k).map fun (i:Nat)=>D.int (i:Int)) [x0,vI n,vS old,vS new,x4,vD (dD m),x6] =
  .nx [x0,vI n,vS old,vS new,x4,vD (dD ((List.range' b k).foldl (xS n old new) m)),y6]/\Gd (J+4 * k) ((List.range' b k).foldl (xS n old new) m)
 | 0,b,J,m,x6,_,g,_=>⟨x6,rfl,g⟩
 | k+1,b,J,m,x6,hb,g,hJ=>by
  obtain ⟨y6,ih,gg⟩:=zD (x0:=x0) (x4:=x4) n hl k (b+1) (J+4) (xS n old new m b) (vI b) (by omega) (g.col n b old new) (by omega)
  refine ⟨y6,?_,?_⟩
  ·rw [List.range'_succ,List.map_cons,eR (ρ1:=[x0,vI n,vS old,vS new,x4,vD (dD m),vI b]) rfl (Gw g n b (by omega) (by omega) (by omega))]
   exact ih
  ·rw [List.range'_succ,List.foldl_cons,show J+4 * (k+1)=J+4+4 * k by omega];exact gg
def swF:List D->R D:=fun ds=>aq (mX wmF soF (ar 7 ds))
theorem qH {m:Mp} (g:Gd J m) (n:Nat) {new:List Nat} {b:Nat} (hl:new.length=old.length) (hb:b<=old.length) (hJ:J+4 * old.length<=880) :
  swF [dD m,.int (n:Int),.str old,.str new,.int (b:Int)]=.ok (dD (eU n old new b m))/\Gd (J+4 * (old.length - b)) (eU n old new b m):=by
 obtain ⟨y6,h,gg⟩:=zD (x0:=vD (dD m)) (x4:=vI b) n hl (old.length - b) b J m none (by omega) g (by omega)
 refine ⟨?_,gg⟩
 have hr:=yp (a:=b) (b:=old.length - b) (by omega)
 rw [show b+(old.length - b)=old.length by omega] at hr
 show aq (aC _ _ [vD (dD m),vI n,vS old,vS new,vI b,none,none])=_
 unfold wo wj wG
 clear gg hJ hb hl g
 walk_at "run"
 rfl
noncomputable def xW:Pl->List Pl->Pl
 | b,[]=>b
 | b,x::xs=>if x.1<b.1 then xW x xs else xW b xs
def Gf:List Pl->Pl
 | []=>(0,[])
 | b::xs=>xW b xs
noncomputable def gf (m:Mp) (ks:List Ky):List Pl:=ks.filterMap fun k=>m.lookup k
def lx (m:Mp) (ks:List Ky):Pl:=Gf (gf m ks)
theorem vo:∀ (xs:List Pl) (b:Pl),tD (fun d=>pcF [d]) (pD b) (b.1:Int) (xs.map pD)=.ok (pD (xW b xs))
 | [],b=>rfl
 | x::xs,b=>by
  rw [List.map_cons]
  show (match pcF [pD x] with
   | .ok (.int kx)=>if kx<(b.1:Int) then tD (fun d=>pcF [d]) (pD x) kx (xs.map pD) else tD (fun d=>pcF [d]) (pD b) (b.1:Int) (xs.map pD)
   | _=>.no)=.ok (pD (if x.1<b.1 then xW x xs else xW b xs))
  rw [CQ]
  dsimp only
  by_cases h:x.1<b.1
  ·rw [if_pos (by omega),if_pos h];exact vo xs x
  ·rw [if_neg (by omega),if_neg h];exact vo xs b
theorem wq {xs:List Pl} (h:xs≠[]):qB (fun d=>pcF [d]) (xs.map pD)=.ok (pD (Gf xs)):=by
 cases xs with
 | nil=>exact absurd rfl h
 | cons b xs=>
  show (match pcF [pD b] with
   | .ok (.int kx)=>tD (fun d=>pcF [d]) (pD b) kx (xs.map pD)
   | _=>.no)=_
  rw [CQ]
  exact vo xs b
theorem iP:∀ (xs:List Pl) (b:Pl),xW b xs∈b::xs
 | [],b=>List.mem_cons_self ..
 | x::xs,b=>by
  show (if x.1<b.1 then xW x xs else xW b xs)∈_
  split
  ·exact List.mem_cons_of_mem _ (iP xs x)
  ·rcases List.mem_cons.1 (iP xs b) with h|h
   ·rw [h];exact List.mem_cons_self ..
   ·exact List.mem_cons_of_mem _ (List.mem_cons_of_mem _ h)
theorem zJ {xs:List Pl} (h:xs≠[]):Gf xs∈xs:=by
 cases xs with
 | nil=>exact absurd rfl h
 | cons b xs=>exact iP xs b
theorem zh {P:Pl->Prop} {m:Mp} {ks:List Ky} (h:All (fun _=>P) m):∀ p∈gf m ks,P p:=fun p hp=>by
 obtain ⟨k,_,e⟩:=List.mem_filterMap.1 hp
 exact All.at h e
theorem da {P:Pl->Prop} {m:Mp} {ks:List Ky} (h:All (fun _=>P) m) (hn:gf m ks≠[]):P (lx m ks):=zh h _ (zJ hn)
theorem ma {m:Mp} {ks:List Ky} {k:Ky} (hk:k∈ks) (h:m.lookup k≠none):gf m ks≠[]:=by
 cases e:m.lookup k with
 | none=>exact absurd e h
 | some p=>exact List.ne_nil_of_mem (List.mem_filterMap.2 ⟨k,hk,e⟩)
def chF:List D->R D:=fun ds=>aq (ii pcF (ar 2 ds))
theorem zL {m:Mp}:∀ (ks:List Ky) (a:Option Sl),eO (rA false 1 (rvz 0)) (ij 1 (rvz 0)) (ks.map kD) [a,vD (dD m)]=.ok ((gf m ks).map pD)
 | [],a=>rfl
 | k::ks,a=>by
  have ih:=zL (m:=m) ks (vD (kD k))
  have h3:tz [vD (kD k),vD (dD m)] 1=.ok (kvD m):=Cc rfl
  have h1:=DR (neg:=false) (i:=1) (ge:=fun ρ=>rdV ρ 0) (ρ:=[vD (kD k),vD (dD m)]) rfl (mJ k) h3
  rw [oE,Option.isSome_map] at h1
  show (dH (rA false 1 (rvz 0) [vD (kD k),vD (dD m)])>>=fun k'=>if k'=true then dH (ij 1 (rvz 0) [vD (kD k),vD (dD m)])>>=fun x=>eO (rA false 1 (rvz 0)) (ij 1 (rvz 0)) (ks.map kD) [vD (kD k),vD (dD m)]>>=fun xs=>.ok (x::xs) else eO (rA false 1 (rvz 0)) (ij 1 (rvz 0)) (ks.map kD) [vD (kD k),vD (dD m)])=_
  rw [h1,ih]
  cases e:m.lookup k with
  | none=>
   have:gf m (k::ks)=gf m ks:=by unfold gf;rw [List.filterMap_cons,e]
   rw [this];rfl
  | some p=>
   have h2:=Bt (i:=1) (ge:=fun ρ=>rdV ρ 0) (v:=pD p) h3 rfl (mJ k) (by rw [oE,e];rfl)
   have:gf m (k::ks)=p::gf m ks:=by unfold gf;rw [List.filterMap_cons,e]
   rw [this,h2];rfl
theorem Gg {m:Mp} {ks:List Ky} (hn:gf m ks≠[]) (hl:ks.length<=4):chF [dD m,.tup (ks.map kD)]=.ok (pD (lx m ks)):=by
 have h1:=zL (m:=m) ks none
 have h2:((gf m ks).map pD).length<=sizeLine:=by
  have h3:1000<=sizeLine:=by decide
  have h4:=List.length_filterMap_le (fun k=>m.lookup k) ks
  rw [List.length_map];unfold gf;omega
 have h5:=wq hn
 have h6:cu (gm (aH ce (rvz 1)) [0] (rA false 1 (rvz 0)) (ij 1 (rvz 0))) [vD (dD m),vD (.tup (ks.map kD))]=.ok (.lst false ((gf m ks).map pD)):=by
  have h7:ce (.tup (ks.map kD))=.ok (ks.map kD):=rfl
  have h8:gW [0] [vD (dD m),vD (.tup (ks.map kD))]=[none,vD (dD m)]:=rfl
  clear h5
  walk_at "run"
 show aq (aC (cw (vt _ pcF)) oNx [vD (dD m),vD (.tup (ks.map kD))])=_
 have h9:vt (cu (gm (aH ce (rvz 1)) [0] (rA false 1 (rvz 0)) (ij 1 (rvz 0)))) pcF [vD (dD m),vD (.tup (ks.map kD))]=.ok (pD (lx m ks)):=by
  unfold vt
  rw [h6,R.ok_bind]
  exact h5
 clear h6 h5 h2 h1
 walk_at "run"
noncomputable def allK:List Ky:=[(false,false),(true,false),(false,true),(true,true)]
def twoK:List Ky:=[(false,false),(true,false)]
def m0 (k:Ky):Mp:=[(k,(0,[]))]
noncomputable def dR (n:Nat) (old new:List Nat):Pl:=lx (eU n old new 0 (m0 (false,false))) allK
noncomputable def iZ (n:Nat) (old new:List Nat) (c:Nat):Pl:=lx (eU n old new c (m0 (true,false))) allK
noncomputable def qj (n:Nat) (old new:List Nat) (c:Nat):Pl:=lx (eU n (old.take c) (new.take c) 0 (m0 (false,false))) twoK
noncomputable def eK (n:Nat) (old new:List Nat) (c:Nat):Pl:=((iZ n old new c).1+(qj n old new c).1,(iZ n old new c).2++(qj n old new c).2)
noncomputable def uf (n:Nat) (old new:List Nat) (c:Nat):Pl:=xW (eK n old new c) [dR n old new]
theorem gd0:Gd 0 (m0 (false,false)):=⟨by decide,.inr (fun z=>nomatch z),fun z hz=>by rw [List.mem_singleton.1 hz];exact Nat.le_refl _⟩
theorem gd1:Gd 0 (m0 (true,false)):=⟨by decide,.inl (fun z=>nomatch z),fun z hz=>by rw [List.mem_singleton.1 hz];exact Nat.le_refl _⟩
theorem Gd.two {m:Mp} (g:Gd J m):gf m twoK≠[]:=by
 rcases g.ne with h|h
 ·exact ma (by decide) h
 ·exact ma (by decide) h
theorem Gd.all {m:Mp} (g:Gd J m):gf m allK≠[]:=by
 rcases g.ne with h|h
 ·exact ma (by decide) h
 ·exact ma (by decide) h
def peF:List D->R D:=fun ds=>aq (ci swF chF (ar 4 ds))
theorem Ir {h:List D->R D} {ga gc gd:Ev->R D}:aM 5 h (aa ga (aa gb (aa gc (aa gd (aa ge fun _=>.ok []))))) ρ=ga ρ>>=fun x=>gb ρ>>=fun y=>gc ρ>>=fun z=>gd ρ>>=fun w=>ge ρ>>=fun v=>h [x,y,z,w,v]:=by
 unfold aM aa
 cases ga ρ <;> try rfl
 simp only [aa,R.ok_bind]
 cases gb ρ <;> try rfl
 simp only [R.ok_bind]
 cases gc ρ <;> try rfl
 simp only [R.ok_bind]
 cases gd ρ <;> try rfl
 simp only [R.ok_bind]
 cases ge ρ <;> rfl
theorem HH (b:Bool) (ρ:Ev):gD1 (fun _=>R.ok (D.tup [D.bl b,D.bl false])) (fun _=>R.ok (D.tup [D.int 0,D.tup []])) ρ=.ok (dD (m0 (b,false))):=rfl
theorem Hx:mkT [D.tup [D.bl false,D.bl false],D.tup [D.bl true,D.bl false],D.tup [D.bl false,D.bl true],D.tup [D.bl true,D.bl true]]=.ok (.tup (allK.map kD)):=rfl
theorem LI:mkT [D.tup [D.bl false,D.bl false],D.tup [D.bl true,D.bl false]]=.ok (.tup (twoK.map kD)):=rfl
theorem EE (n:Nat) {new:List Nat} (hl:new.length=old.length) (hw:old.length<=40):peF [.int (n:Int),.str old,.str new]=.ok (pD (dR n old new))/\(dR n old new).2.length<=4 * old.length:=by
 obtain ⟨h1,g⟩:=qH gd0 n (b:=0) hl (Nat.zero_le _) (by omega)
 have b:=da (ks:=allK) (P:=fun p=>p.2.length<=0+4 * (old.length - 0)) g.len g.all
 refine ⟨?_,by unfold dR;omega⟩
 have h1:swF [_,_,_,_,.int 0]=_:=h1
 have h2:=Gg g.all (by decide)
 have k5:=@Ir
 have d1:=HH
 have k4:=Hx
 show aq (aC _ _ [vI n,vS old,vS new,none])=_
 unfold db dc dR
 clear b g hw hl
 walk_at "run"
def ppF:List D->R D:=fun ds=>aq (cS swF chF (ar 7 ds))
theorem Ed {x:List Nat} {c:Nat} (h:c<=x.length):D7 none (some (c:Int)) (.str x)=some (.str (x.take c)):=by
 show some (D.str (jT x none (some (c:Int))))=_
 rw [Di x c h]
theorem C5 {a b:List Od} (h:a.length+b.length<=900):bR (.tup (a.map oD)) (.tup (b.map oD))=some (.tup ((a++b).map oD)):=by
 have h1:1000<=sizeLine:=by decide
 show (if _ then _ else _)=_
 rw [if_pos (by simp only [List.length_map];omega),List.map_append]
theorem LA (n:Nat) {new:List Nat} {c:Nat} (hl:new.length=old.length) (hw:old.length<=40) (hc:c<=old.length):ppF [.int (n:Int),.str old,.str new,.int (c:Int)]=.ok (pD (eK n old new c))/\(eK n old new c).2.length<=4 * old.length:=by
 obtain ⟨h1,g1⟩:=qH gd1 n (b:=c) hl hc (by omega)
 have l1:(old.take c).length=c:=by rw [List.length_take];omega
 have l2:(new.take c).length=c:=by rw [List.length_take];omega
 obtain ⟨h2,g2⟩:=qH gd0 n (b:=0) (old:=old.take c) (new:=new.take c) (by omega) (Nat.zero_le _) (by omega)
 have b1:=da (ks:=allK) (P:=fun p=>p.2.length<=0+4 * (old.length - c)) g1.len g1.all
 have b2:=da (ks:=twoK) (P:=fun p=>p.2.length<=0+4 * ((old.take c).length - 0)) g2.len g2.two
 have b3:(eK n old new c).2.length<=4 * old.length:=by unfold eK iZ qj;rw [List.length_append];rw [l1] at b2;omega
 refine ⟨?_,b3⟩
 have h3:_=R.ok (pD (iZ n old new c)):=Gg g1.all (by decide)
 have h4:_=R.ok (pD (qj n old new c)):=Gg g2.two (by decide)
 have h2:swF [_,_,_,_,.int 0]=_:=h2
 have h5:=Ed (x:=old) hc
 have h6:=Ed (x:=new) (by omega:c<=new.length)
 have h7:=C5 (a:=(iZ n old new c).2) (b:=(qj n old new c).2) (by unfold eK at b3;rw [List.length_append] at b3;omega)
 have k5:=@Ir
 have d1:=HH
 have k4:=Hx
 have k2:=LI
 have i0:∀ p:Pl,ixD (pD p) (.int 0)=some (.int (p.1:Int)):=fun _=>rfl
 have i1:∀ p:Pl,ixD (pD p) (.int 1)=some (.tup (p.2.map oD)):=fun _=>rfl
 have i5:mkT [.int (((iZ n old new c).1:Int)+((qj n old new c).1:Int)),.tup (((iZ n old new c).2++(qj n old new c).2).map oD)]=.ok (pD (eK n old new c)):=rfl
 show aq (aC _ _ [vI n,vS old,vS new,vI c,none,none,none])=_
 unfold ff fj fc eY eW
 clear b1 b2 b3 l1 l2 g1 g2 hl hw hc
 walk_at "run"
def rpF:List D->R D:=fun ds=>aq (cA peF ppF pcF (ar 5 ds))
theorem Jw (n:Nat) {new:List Nat} {c:Nat} (hl:new.length=old.length) (hw:old.length<=40) (hc:c<=old.length):rpF [.int (n:Int),.str old,.str new,.int (c:Int)]=.ok (pD (uf n old new c))/\(uf n old new c).2.length<=4 * old.length:=by
 obtain ⟨h1,b1⟩:=EE n hl hw
 obtain ⟨h2,b2⟩:=LA n hl hw hc
 refine ⟨?_,?_⟩
 ·have h3:_=R.ok (pD (uf n old new c)):=wq (xs:=[eK n old new c,dR n old new]) (fun z=>nomatch z)
  have hz:2<=sizeLine:=by decide
  have mn:∀ (ga:Ev->R D) (ρ:Ev),vt ga pcF ρ=ga ρ>>=fun d=>match d with|.lst _ xs=>qB (fun d=>pcF [d]) xs|_=>.no:=fun _ _=>rfl
  show aq (aC _ _ [vI n,vS old,vS new,vI c,none])=_
  unfold dE dC
  clear b1 b2 hl hw hc
  rw [List.map_cons,List.map_cons,List.map_nil] at h3
  walk_at "run"
 ·rcases List.mem_cons.1 (iP [dR n old new] (eK n old new c)) with h|h
  ·unfold uf;rw [h];exact b2
  ·unfold uf;rw [List.mem_singleton.1 h];exact b1
theorem qe {P:Pl->Prop} {m:Mp} {a b:Ky} {o:Od} (h:All (fun _=>P) m) (ho:∀ p,P p->P (ky p o)):All (fun _=>P) (move m a b o):=by
 unfold move
 split
 ·rename_i p e;exact All.offer h (ho p (All.at h e))
 ·exact h
theorem yR {P:Pl->Prop} {n b:Nat} {new:List Nat} {m:Mp} (h:All (fun _=>P) m) (hg:∀ c,c<old.length->∀ p,P p->P (ky p (.go n c))) (hw:∀ p,P p->P (ky p .wipe)) (hs:∀ c,c<old.length->∀ p,P p->P (ky p (.say [new.getD c 0]))):All (fun _=>P) (eU n old new b m):=by
 refine lY (P:=All (fun _=>P)) h fun a c hc ha=>?_
 have hc':c<old.length:=by rw [List.mem_range'_1] at hc;omega
 exact pU (P:=fun _=>P) (qe (qe (qe ha (hg c hc')) hw) (hg c hc')) (fun k p hp _=>hs c hc' p hp) fun k p hp _=>hp
noncomputable def POk (p:Pl):Prop:=(∀ o∈p.2,okO o=true/\rz o<=1)/\p.1=(p.2.map bQ).sum
theorem POk.add {p:Pl} {o:Od} (h:POk p) (ho:okO o=true) (hs:rz o<=1):POk (ky p o):=by
 refine ⟨fun x hx=>?_,?_⟩
 ·rcases List.mem_append.1 hx with hx|hx
  ·exact h.1 x hx
  ·rw [List.mem_singleton.1 hx];exact ⟨ho,hs⟩
 ·simp only [ky,List.map_append,List.sum_append,h.2];simp
theorem POk.zero:POk (0,[]):=⟨fun _ h=>(by cases h),rfl⟩
theorem wu {o:Od} (h:okO o=true):1<=bQ o:=by
 cases o with
 | say x=>simp only [okO,Bool.and_eq_true,decide_eq_true_eq] at h;exact h.2.1
 | go _ _=>exact Nat.le_succ _
 | wipe=>exact Nat.le_refl _
theorem POk.nil {p:Pl} (h:POk p) (e:p.1=0):p=(0,[]):=by
 obtain ⟨c,os⟩:=p
 cases os with
 | nil=>cases e;rfl
 | cons o os=>
  have h1:=wu (h.1 o (List.mem_cons_self ..)).1
  have h2:=h.2
  simp only [List.map_cons,List.sum_cons] at h2
  dsimp only at e
  omega
theorem Ao {x:List Nat} {c:Nat} (h:bh x=true) (hc:c<x.length):bh [x.getD c 0]=true:=by
 have:x.getD c 0∈x:=by rw [List.getD_eq_getElem?_getD,List.getElem?_eq_getElem hc];exact List.getElem_mem hc
 unfold bh at h ⊢
 simp only [List.all_cons,List.all_nil,Bool.and_true]
 exact List.all_eq_true.1 h _ this
theorem oK {n b:Nat} {new:List Nat} {m:Mp} (h:All (fun _=>POk) m) (hn:n<=11) (hw:old.length<=40) (hl:new.length=old.length) (hp:bh new=true):All (fun _=>POk) (eU n old new b m):=
 yR h (fun c hc p q=>q.add (by simp only [okO,Bool.and_eq_true,decide_eq_true_eq];omega) (Nat.zero_le _)) (fun p q=>q.add rfl (Nat.zero_le _))
  fun c hc p q=>q.add (by have:=Ao hp (by omega:c<new.length);simp only [okO,this];rfl) (Nat.le_refl _)
theorem zx (k:Ky):All (fun _=>POk) (m0 k):=fun z hz=>by rw [List.mem_singleton.1 hz];exact POk.zero
theorem lS {n:Nat} {new:List Nat} (hn:n<=11) (hw:old.length<=40) (hl:new.length=old.length) (hp:bh new=true):POk (dR n old new):=
 da (oK (zx _) hn hw hl hp) (qH gd0 n (b:=0) hl (Nat.zero_le _) (by omega)).2.all
theorem Ck {x:List Nat} (n:Nat) (h:bh x=true):bh (x.take n)=true:=by
 simp only [bh,List.all_eq_true] at *;exact fun c hc=>h c (List.mem_of_mem_take hc)
theorem rE {n c:Nat} {new:List Nat} (hn:n<=11) (hw:old.length<=40) (hl:new.length=old.length) (hp:bh new=true) (hc:c<=old.length):POk (iZ n old new c):=
 da (oK (zx _) hn hw hl hp) (qH gd1 n (b:=c) hl hc (by omega)).2.all
theorem xp {n c:Nat} {new:List Nat} (hn:n<=11) (hw:old.length<=40) (hl:new.length=old.length) (hp:bh new=true) (hc:c<=old.length):POk (qj n old new c):=by
 have l1:(old.take c).length=c:=by rw [List.length_take];omega
 have l2:(new.take c).length=c:=by rw [List.length_take];omega
 exact da (oK (zx _) hn (by omega) (by omega) (Ck c hp)) (qH gd0 n (b:=0) (old:=old.take c) (new:=new.take c) (by omega) (Nat.zero_le _) (by omega)).2.two
theorem zn {n c:Nat} {new:List Nat} (hn:n<=11) (hw:old.length<=40) (hl:new.length=old.length) (hp:bh new=true) (hc:c<=old.length):POk (eK n old new c):=by
 have h1:=rE hn hw hl hp hc
 have h2:=xp hn hw hl hp hc
 refine ⟨fun o ho=>?_,?_⟩
 ·rcases List.mem_append.1 ho with ho|ho
  ·exact h1.1 o ho
  ·exact h2.1 o ho
 ·show _+_=_
  rw [h1.2,h2.2];simp [eK]
theorem zI {n c:Nat} {new:List Nat} (hn:n<=11) (hw:old.length<=40) (hl:new.length=old.length) (hp:bh new=true) (hc:c<=old.length):POk (uf n old new c):=by
 rcases List.mem_cons.1 (iP [dR n old new] (eK n old new c)) with h|h
 ·unfold uf;rw [h];exact zn hn hw hl hp hc
 ·unfold uf;rw [List.mem_singleton.1 h];exact lS hn hw hl hp
noncomputable def Has (m:Mp) (k:Ky) (v:Nat):Prop:=∃ q,m.lookup k=some q/\q.1<=v
theorem Has.offer {m:Mp} {j k:Ky} {v:Nat} {p:Pl} (h:Has m j v):Has (bS m k p) j v:=by
 obtain ⟨q,e,hq⟩:=h
 unfold Has
 rw [iH]
 by_cases z:j=k
 ·subst z
  rw [if_pos rfl,e]
  dsimp only
  by_cases y:p.1<q.1
  ·rw [if_pos y];exact ⟨p,rfl,by omega⟩
  ·rw [if_neg y];exact ⟨q,rfl,hq⟩
 ·rw [if_neg z];exact ⟨q,e,hq⟩
theorem Has.new {m:Mp} {k:Ky} {p:Pl}:Has (bS m k p) k p.1:=by
 unfold Has
 rw [iH,if_pos rfl]
 cases m.lookup k with
 | none=>exact ⟨p,rfl,Nat.le_refl _⟩
 | some q=>
  dsimp only
  by_cases y:p.1<q.1
  ·rw [if_pos y];exact ⟨p,rfl,Nat.le_refl _⟩
  ·rw [if_neg y];exact ⟨q,rfl,by omega⟩
theorem Has.mono {m:Mp} {k:Ky} {v w:Nat} (h:Has m k v) (l:v<=w):Has m k w:=by
 obtain ⟨q,e,hq⟩:=h;exact ⟨q,e,Nat.le_trans hq l⟩
theorem Has.keep {m:Mp} {a b j:Ky} {o:Od} {v:Nat} (h:Has m j v):Has (move m a b o) j v:=by
 unfold move
 split
 ·exact h.offer
 ·exact h
theorem Has.move {m:Mp} {a b:Ky} {o:Od} {v:Nat} (h:Has m a v):Has (move m a b o) b (v+bQ o):=by
 obtain ⟨q,e,hq⟩:=h
 unfold Q.move
 rw [e]
 exact Has.new.mono (by show q.1+bQ o<=_;omega)
theorem Has.sovK {old new:Nat} {acc:Mp} {z:Ky×Pl} {j:Ky} {v:Nat} (h:Has acc j v):Has (sovK old new acc z) j v:=by
 unfold Q.sovK
 have h1:Has (if z.1.1=true then bS acc (true,z.1.2) (ky z.2 (.say [new])) else acc) j v:=by
  split
  ·exact h.offer
  ·exact h
 dsimp only
 split
 ·exact h1.offer
 ·exact h1
theorem rm {old new:Nat} {j:Ky} {v:Nat}:∀ {l acc:Mp},(Has acc j v\/∃ z∈l,∀ acc,Has (sovK old new acc z) j v)->Has (l.foldl (sovK old new) acc) j v
 | [],acc,h=>by
  rcases h with h|⟨z,hz,_⟩
  ·exact h
  ·cases hz
 | x::l,acc,h=>by
  refine rm (l:=l) ?_
  rcases h with h|⟨z,hz,H⟩
  ·exact .inl h.sovK
  ·rcases List.mem_cons.1 hz with hz|hz
   ·subst hz;exact .inl (H acc)
   ·exact .inr ⟨z,hz,H⟩
theorem Has.say {old new:Nat} {m:Mp} {w:Bool} {v:Nat} (h:Has m (true,w) v):Has (A9 old new m) (true,w) (v+1):=by
 obtain ⟨q,e,hq⟩:=h
 refine rm (.inr ⟨_,jJ e,fun acc=>?_⟩)
 unfold Q.sovK
 dsimp only
 rw [if_pos rfl]
 have h1:Has (bS acc (true,w) (ky q (.say [new]))) (true,w) (v+1):=Has.new.mono (by show q.1+1<=_;omega)
 split
 ·exact h1.offer
 ·exact h1
theorem Has.leave {old new:Nat} {m:Mp} {a w:Bool} {v:Nat} (h:Has m (a,w) v) (e:und old w=new):Has (A9 old new m) (false,w) v:=by
 obtain ⟨q,e',hq⟩:=h
 refine rm (.inr ⟨_,jJ e',fun acc=>?_⟩)
 unfold Q.sovK
 dsimp only
 rw [if_pos e]
 exact Has.new.mono hq
theorem jm:∀ (xs:List Pl) (b:Pl) (p:Pl),p∈b::xs->(xW b xs).1<=p.1
 | [],b,p,h=>by rw [List.mem_singleton.1 h];exact Nat.le_refl _
 | x::xs,b,p,h=>by
  show (if x.1<b.1 then xW x xs else xW b xs).1<=_
  by_cases y:x.1<b.1
  ·rw [if_pos y]
   rcases List.mem_cons.1 h with h|h
   ·rw [h];exact Nat.le_trans (jm xs x x (List.mem_cons_self ..)) (Nat.le_of_lt y)
   ·exact jm xs x p h
  ·rw [if_neg y]
   rcases List.mem_cons.1 h with h|h
   ·rw [h];exact jm xs b b (List.mem_cons_self ..)
   ·rcases List.mem_cons.1 h with h|h
    ·rw [h];exact Nat.le_trans (jm xs b b (List.mem_cons_self ..)) (by omega)
    ·exact jm xs b p (List.mem_cons_of_mem _ h)
theorem jQ {m:Mp} {ks:List Ky} {k:Ky} {v:Nat} (hk:k∈ks) (h:Has m k v):(lx m ks).1<=v:=by
 obtain ⟨q,e,hq⟩:=h
 have hm:q∈gf m ks:=List.mem_filterMap.2 ⟨k,hk,e⟩
 unfold lx
 cases c:gf m ks with
 | nil=>rw [c] at hm;cases hm
 | cons b xs=>rw [c] at hm;exact Nat.le_trans (jm xs b q hm) hq
theorem jt {n:Nat} {x:List Nat}:∀ (k b:Nat) (m:Mp),Has m (false,false) 0->Has ((List.range' b k).foldl (xS n x x) m) (false,false) 0
 | 0,b,m,h=>h
 | k+1,b,m,h=>by
  rw [List.range'_succ,List.foldl_cons]
  exact jt k (b+1) _ (Has.leave (a:=false) (((h.keep).keep).keep) rfl)
theorem HA (k:Ky):Has (m0 k) k 0:=⟨(0,[]),by unfold m0;rw [List.lookup_cons,beq_self_eq_true],Nat.le_refl _⟩
theorem sC {n:Nat} {x:List Nat} (hn:n<=11) (hw:x.length<=40) (hp:bh x=true):dR n x x=(0,[]):=by
 refine (lS hn hw rfl hp).nil ?_
 exact Nat.le_zero.1 (jQ (k:=(false,false)) (by decide) (jt _ _ _ (HA _)))
theorem Ba {n c:Nat} {x:List Nat} (hn:n<=11) (hw:x.length<=40) (hp:bh x=true) (hc:c<=x.length):qj n x x c=(0,[]):=by
 refine (xp hn hw rfl hp hc).nil ?_
 exact Nat.le_zero.1 (jQ (k:=(false,false)) (by decide) (jt _ _ _ (HA _)))
theorem yg {n c:Nat} {x:List Nat} (hn:n<=11) (hw:x.length<=40) (hp:bh x=true) (hc:c<=x.length):iZ n x x c=(0,[]):=by
 refine (rE hn hw rfl hp hc).nil (Nat.le_zero.1 ?_)
 unfold iZ eU
 cases e:x.length - c with
 | zero=>exact jQ (k:=(true,false)) (by decide) (HA _)
 | succ k=>
  rw [List.range'_succ,List.foldl_cons]
  exact jQ (k:=(false,false)) (by decide) (jt _ _ _ (Has.leave (a:=true) ((((HA (true,false)).keep).keep).keep) rfl))
theorem BZ {n c:Nat} {x:List Nat} (hn:n<=11) (hw:x.length<=40) (hp:bh x=true) (hc:c<=x.length):uf n x x c=(0,[]):=by
 unfold uf eK
 rw [Ba hn hw hp hc,yg hn hw hp hc,sC hn hw hp];rfl
noncomputable def bt (n wd:Nat) (xs:List (List Nat)):List (List Nat):=xs.map (wD wd)++List.replicate (n - xs.length) (List.replicate wd 32)
theorem fT (n wd:Nat) (xs:List (List Nat)):cX n wd xs=(bt n wd xs).map .str:=by
 unfold cX bt;rw [List.map_append,List.map_map,List.map_replicate];rfl
structure GL (s:St) (g:List (List Nat)):Prop where
 n:g.length=s.2.1.length
 l:∀ x∈g,x.length=s.1/\bh x=true
theorem qX {s:St} {xs:List (List Nat)} (h:bi s.2.1.length s.1 xs=true):GL s (bt s.2.1.length s.1 xs):=by
 obtain ⟨h1,h2⟩:=kL h
 rw [fT] at h1 h2
 refine ⟨by rw [List.length_map] at h2;exact h2,fun x hx=>?_⟩
 obtain ⟨y,e,hy⟩:=h1 (.str x) (List.mem_map.2 ⟨x,hx,rfl⟩)
 cases e;exact hy
theorem er {s:St} {g:List (List Nat)} (h:GL s g) (hi:i<s.2.1.length):(g.getD i []).length=s.1/\bh (g.getD i [])=true:=by
 have:g.getD i []∈g:=lZ (by rw [h.n];exact hi)
 exact h.l _ this
theorem bL {s:St} (h:GS s) (hi:i<s.2.1.length):(s.2.1.getD i []).length=s.1/\bh (s.2.1.getD i [])=true:=h.l _ (lZ hi)
noncomputable def vz (s:St) (g:List (List Nat)) (i:Nat):List Od:=if i=s.2.2.1 then [] else (dR i (s.2.1.getD i []) (g.getD i [])).2
noncomputable def hZ (s:St) (g:List (List Nat)):List Od:=(uf s.2.2.1 (s.2.1.getD s.2.2.1 []) (g.getD s.2.2.1 []) s.2.2.2).2
noncomputable def gD (s:St) (g:List (List Nat)):List Od:=hZ s g++(List.range' 0 s.2.1.length).flatMap (vz s g)
theorem Au {s:St} {g:List (List Nat)} (h:GS s) (hg:GL s g) (hi:i<s.2.1.length):(vz s g i).length<=4 * s.1:=by
 unfold vz
 split
 ·exact Nat.zero_le _
 ·have:=(EE i (old:=s.2.1.getD i []) (new:=g.getD i []) (by rw [(bL h hi).1,(er hg hi).1]) (by rw [(bL h hi).1];exact h.w2)).2
  rwa [(bL h hi).1] at this
theorem Ho {s:St} {g:List (List Nat)} (h:GS s) (hg:GL s g) (hi:i<s.2.1.length):∀ o∈vz s g i,okO o=true/\rz o<=1:=by
 unfold vz
 split
 ·exact fun o ho=>by cases ho
 ·have hm:=h.m
  exact (lS (n:=i) (by omega) (by rw [(bL h hi).1];exact h.w2) (by rw [(bL h hi).1,(er hg hi).1]) (er hg hi).2).1
theorem rY {s:St} {g:List (List Nat)} (h:GS s) (hg:GL s g):(hZ s g).length<=4 * s.1:=by
 have:=(Jw s.2.2.1 (old:=s.2.1.getD s.2.2.1 []) (new:=g.getD s.2.2.1 []) (c:=s.2.2.2) (by rw [(bL h h.r).1,(er hg h.r).1]) (by rw [(bL h h.r).1];exact h.w2) (by rw [(bL h h.r).1];exact h.c)).2
 rwa [(bL h h.r).1] at this
theorem BV {s:St} {g:List (List Nat)} (h:GS s) (hg:GL s g):∀ o∈hZ s g,okO o=true/\rz o<=1:=by
 have hm:=h.m
 have hr:=h.r
 exact (zI (n:=s.2.2.1) (c:=s.2.2.2) (by omega) (by rw [(bL h h.r).1];exact h.w2) (by rw [(bL h h.r).1,(er hg h.r).1]) (er hg h.r).2 (by rw [(bL h h.r).1];exact h.c)).1
theorem AQ (rows:List (List Nat)):bH 0 (rows.map .str)=(List.range' 0 rows.length).map fun (i:Nat)=>.tup [.int (i:Int),.str (rows.getD i [])]:=by
 unfold bH
 rw [List.length_map,List.range_eq_range']
 refine List.map_congr_left fun i hi=>?_
 have hi':i<rows.length:=by rw [List.mem_range'_1] at hi;omega
 rw [List.getD_eq_getElem?_getD,List.getD_eq_getElem?_getD,List.getElem?_map,List.getElem?_eq_getElem hi',Nat.zero_add];rfl
theorem Bu {F1 F2 F3 F4:List D->R D} {x0 x1:Option Sl} {s:St} {g:List (List Nat)} (h:GS s) (hg:GL s g):∀ (k j:Nat) (acc:List Od) (x5 x6:Option Sl),j+k<=s.2.1.length->acc.length+4 * s.1 * k<=900->∃ y5 y6,cH (vT [5,6]) (md F1 F2 F3 peF F4) ((List.range' j k).map fun (i:Nat)=>.tup [.int (i:Int),.str (s.2.1.getD i [])])
  [x0,x1,vD (.lst false (g.map .str)),vD (.int (s.2.2.1:Int)),some (.own (acc.map oD)),x5,x6] =
  .nx [x0,x1,vD (.lst false (g.map .str)),vD (.int (s.2.2.1:Int)),some (.own ((acc++(List.range' j k).flatMap (vz s g)).map oD)),y5,y6]
 | 0,j,acc,x5,x6,_,_=>⟨x5,x6,by simp [pY]⟩
 | k+1,j,acc,x5,x6,hj,hl=>by
  have hi:j<s.2.1.length:=by omega
  have b1:=Au h hg hi
  rw [Nat.mul_succ] at hl
  obtain ⟨y5,y6,ih⟩:=Bu (F1:=F1) (F2:=F2) (F3:=F3) (F4:=F4) (x0:=x0) (x1:=x1) h hg k (j+1) (acc++vz s g j) (vI j) (vS (s.2.1.getD j [])) (by omega) (by rw [List.length_append];omega)
  refine ⟨y5,y6,?_⟩
  rw [List.range'_succ,List.map_cons,eR (ρ1:=[x0,x1,vD (.lst false (g.map .str)),vD (.int (s.2.2.1:Int)),some (.own (acc.map oD)),vI j,vS (s.2.1.getD j [])]) (ρ2:=[x0,x1,vD (.lst false (g.map .str)),vD (.int (s.2.2.1:Int)),some (.own ((acc++vz s g j).map oD)),vI j,vS (s.2.1.getD j [])]) rfl ?_,ih,List.flatMap_cons,List.append_assoc]
  clear ih
  have e1:neF (.int (j:Int)) (.int (s.2.2.1:Int))=some (.bl (!decide (j=s.2.2.1))):=by
   rw [LZ]
   by_cases z:j=s.2.2.1
   ·rw [z,beq_self_eq_true,decide_eq_true rfl]
   ·rw [decide_eq_false z,beq_eq_false_iff_ne.2 (by omega)]
  unfold md vz
  by_cases z:j=s.2.2.1
  ·rw [if_pos z,List.append_nil]
   rw [decide_eq_true z] at e1
   clear z b1 hl hj hi
   walk_at "run"
  ·rw [if_neg z]
   rw [decide_eq_false z] at e1
   have e2:=(EE j (old:=s.2.1.getD j []) (new:=g.getD j []) (by rw [(bL h hi).1,(er hg hi).1]) (by rw [(bL h hi).1];exact h.w2)).1
   have e3:ixD (.lst false (g.map .str)) (.int (j:Int))=some (.str (g.getD j [])):=L8 (by rw [List.getElem?_map,List.getElem?_eq_getElem (by rw [hg.n];exact hi),List.getD_eq_getElem?_getD,List.getElem?_eq_getElem (by rw [hg.n];exact hi)];rfl)
   have e4:ixD (pD (dR j (s.2.1.getD j []) (g.getD j []))) (.int 1)=some (.tup ((dR j (s.2.1.getD j []) (g.getD j [])).2.map oD)):=rfl
   have e5:∀ (ga:Ev->R D) (ρ:Ev),FY 4 ga ρ=(ownAt ρ 4).out ρ fun ds=>(ga ρ).out ρ fun d=>(asT d).out ρ fun es=>if ds.length+es.length<=sizeLine then .nx (ρ.set 4 (some (.own (ds++es)))) else .no:=fun _ _=>rfl
   have e6:asT (.tup ((dR j (s.2.1.getD j []) (g.getD j [])).2.map oD))=.ok ((dR j (s.2.1.getD j []) (g.getD j [])).2.map oD):=rfl
   have e7:(acc.map oD).length+((dR j (s.2.1.getD j []) (g.getD j [])).2.map oD).length<=sizeLine:=by
    have h1:1000<=sizeLine:=by decide
    unfold vz at b1
    rw [if_neg z] at b1
    rw [List.length_map,List.length_map];omega
   have e8:∀ (a0 a1 a2 a3:Option Sl) (ds:List D) (ρ:Ev),ownAt (a0::a1::a2::a3::some (.own ds)::ρ) 4=.ok ds:=fun _ _ _ _ _ _=>rfl
   rw [List.map_append]
   clear z b1 hl hj hi
   walk_at "run"
theorem xG {s:St} {g:List (List Nat)} (h:GS s) (hg:GL s g):∀ (k j:Nat),j+k<=s.2.1.length->((List.range' j k).flatMap (vz s g)).length<=4 * s.1 * k
 | 0,_,_=>Nat.zero_le _
 | k+1,j,hj=>by
  have:=xG h hg k (j+1) (by omega)
  have b1:=Au h hg (i:=j) (by omega)
  rw [List.range'_succ,List.flatMap_cons,List.length_append,Nat.mul_succ];omega
theorem sI {s:St} {g:List (List Nat)} (h:GS s) (hg:GL s g):(gD s g).length<=4 * s.1 * (s.2.1.length+1):=by
 have:=xG h hg s.2.1.length 0 (by omega)
 have b1:=rY h hg
 unfold gD
 rw [List.length_append,Nat.mul_succ];omega
theorem mf {s:St} {g:List (List Nat)} (h:GS s) (hg:GL s g):∀ o∈gD s g,okO o=true/\rz o<=1:=fun o ho=>by
 rcases List.mem_append.1 ho with ho|ho
 ·exact BV h hg o ho
 ·obtain ⟨i,hi,ho⟩:=List.mem_flatMap.1 ho
  exact Ho h hg (by rw [List.mem_range'_1] at hi;omega) o ho
theorem Kz {s:St} (h:GS s) {xs:List (List Nat)} (hx:bi s.2.1.length s.1 xs=true) (f:Bool):crF [sD s,.lst f (xs.map .str)]=.ok .non:=by
 show (match L2.dZ (xs.map .str) with
  | some ys=>if screen (sD s)=true/\bi (s.2.1.map D.str).length (s.1:Int).toNat ys=true then R.ok D.non else .no
  | none=>.no)=_
 rw [el]
 exact if_pos ⟨h.screen,by rw [List.length_map];exact hx⟩
theorem LD {s:St} (h:GS s) {xs:List (List Nat)} (hx:bi s.2.1.length s.1 xs=true) (f:Bool):frF [sD s,.lst f (xs.map .str)]=.ok (.lst false ((bt s.2.1.length s.1 xs).map .str)):=by
 have h1:=h.w2
 have h2:=h.m
 show (match L2.dZ (xs.map .str) with
  | some ys=>if (0<=(s.1:Int)/\(s.1:Int)<=100)/\(s.2.1.map D.str).length<=100/\bi (s.2.1.map D.str).length (s.1:Int).toNat ys=true then R.ok (D.lst false (cX (s.2.1.map D.str).length (s.1:Int).toNat ys)) else .no
  | none=>.no)=_
 rw [el]
 dsimp only
 rw [if_pos ⟨⟨by omega,by omega⟩,by rw [List.length_map];omega,by rw [List.length_map];exact hx⟩,List.length_map,fT];rfl
noncomputable def leF (Co:Addr):List D->R D:=fun ds=>aq (nr crF frF rpF peF (shG Co) (ar 7 ds))
theorem Lq {os:List Od} (h:∀ o∈os,okO o=true/\rz o<=1) (hl:os.length<=900):shG C [.lst false (os.map oD)]=.ok (.lst false ((shO os).map oD)):=Nm (fun o ho=>(h o ho).1) (by omega)
theorem Kh {s:St} (h:GS s) {xs:List (List Nat)} (hx:bi s.2.1.length s.1 xs=true) (hb:4 * s.1 * (s.2.1.length+1)<=900) (f:Bool):leF C [sD s,.lst f (xs.map .str)]=.ok (.lst false ((shO (gD s (bt s.2.1.length s.1 xs))).map oD)):=by
 have c1:=Kz h hx f
 have c2:=LD h hx f
 have hg:=qX hx
 generalize bt s.2.1.length s.1 xs=g at c2 hg ⊢
 have c3:=(Jw s.2.2.1 (old:=s.2.1.getD s.2.2.1 []) (new:=g.getD s.2.2.1 []) (c:=s.2.2.2) (by rw [(bL h h.r).1,(er hg h.r).1]) (by rw [(bL h h.r).1];exact h.w2) (by rw [(bL h h.r).1];exact h.c)).1
 have c4:=Lq (C:=C) (mf h hg) (Nat.le_trans (sI h hg) hb)
 have i1:ixD (sD s) (.int 2)=some (.tup [.int (s.2.2.1:Int),.int (s.2.2.2:Int)]):=rfl
 have i2:ixD (.tup [.int (s.2.2.1:Int),.int (s.2.2.2:Int)]) (.int 0)=some (.int (s.2.2.1:Int)):=rfl
 have i3:ixD (.tup [.int (s.2.2.1:Int),.int (s.2.2.2:Int)]) (.int 1)=some (.int (s.2.2.2:Int)):=rfl
 have i4:ixD (sD s) (.int 1)=some (.tup (s.2.1.map .str)):=rfl
 have i5:ixD (.tup (s.2.1.map D.str)) (.int (s.2.2.1:Int))=some (.str (s.2.1.getD s.2.2.1 [])):=JN (by rw [List.getElem?_map,List.getElem?_eq_getElem h.r,List.getD_eq_getElem?_getD,List.getElem?_eq_getElem h.r];rfl)
 have hr:=h.r
 have i6:ixD (.lst false (g.map D.str)) (.int (s.2.2.1:Int))=some (.str (g.getD s.2.2.1 [])):=L8 (by rw [List.getElem?_map,List.getElem?_eq_getElem (by rw [hg.n];exact hr),List.getD_eq_getElem?_getD,List.getElem?_eq_getElem (by rw [hg.n];exact hr)];rfl)
 have i7:ixD (pD (uf s.2.2.1 (s.2.1.getD s.2.2.1 []) (g.getD s.2.2.1 []) s.2.2.2)) (.int 1)=some (.tup ((hZ s g).map oD)):=rfl
 have i8:qG (.tup (s.2.1.map .str))=.ok ((List.range' 0 s.2.1.length).map fun (i:Nat)=>.tup [.int (i:Int),.str (s.2.1.getD i [])]):=by
  show R.ok (bH 0 (s.2.1.map .str))=_
  rw [AQ]
 obtain ⟨y5,y6,lp0⟩:=Bu (F1:=crF) (F2:=frF) (F3:=rpF) (F4:=shG C) (x0:=vD (sD s)) (x1:=vD (.lst f (xs.map .str))) h hg s.2.1.length 0 (hZ s g) none none (by omega) (by have:=rY h hg;rw [Nat.mul_succ] at hb;omega)
 have lp:cH (vT [5,6]) (md crF frF rpF peF (shG C)) ((List.range' 0 s.2.1.length).map fun (i:Nat)=>.tup [.int (i:Int),.str (s.2.1.getD i [])]) [vD (sD s),vD (.lst f (xs.map .str)),vD (.lst false (g.map .str)),vD (.int (s.2.2.1:Int)),some (.own ((hZ s g).map oD)),none,none]=.nx [vD (sD s),vD (.lst f (xs.map .str)),vD (.lst false (g.map .str)),vD (.int (s.2.2.1:Int)),some (.own ((gD s g).map oD)),y5,y6]:=lp0
 clear lp0
 show aq (aC _ _ [vD (sD s),vD (.lst f (xs.map .str)),none,none,none,none,none])=_
 unfold wX wl xn xh xE wQ
 clear hg hx hb hr h
 walk_at "run"
noncomputable def pL (Co:Addr):List D->R D:=fun ds=>aq (fG (leF Co) (coG Co) (ar 2 ds))
noncomputable def iW (s:St) (g:List (List Nat)):Nat:=((shO (gD s g)).map bQ).sum
theorem K1 {f:Bool} {os:List Od} (h:∀ o∈os,okO o=true) (hl:os.length<=1000):coG C [.lst f (os.map oD)]=.ok (.int ((os.map bQ).sum:Nat)):=Mm h hl
theorem LH {s:St} (h:GS s) {xs:List (List Nat)} (hx:bi s.2.1.length s.1 xs=true) (hb:4 * s.1 * (s.2.1.length+1)<=900) (f:Bool):pL C [sD s,.lst f (xs.map .str)]=.ok (.int (iW s (bt s.2.1.length s.1 xs):Int)):=by
 have e1:=Kh (C:=C) h hx hb f
 have hg:=qX hx
 have b1:=sI h hg
 have b2:=(nD (gD s (bt s.2.1.length s.1 xs)) []).1
 have e2:=K1 (C:=C) (f:=false) (IX fun o ho=>(mf h hg o ho).1) (by unfold shO;simp only [List.length_nil] at b2;omega)
 show aq (aC _ _ [vD (sD s),vD (.lst f (xs.map .str))])=_
 unfold jV iW
 clear b1 b2 hg hb hx h
 walk_at "run"
theorem um {s:St} (h:GS s):gD s s.2.1=[]:=by
 have hm:=h.m
 have hr:=h.r
 have hg:GL s s.2.1:=⟨rfl,h.l⟩
 have e1:hZ s s.2.1=[]:=by
  unfold hZ
  rw [BZ (by omega) (by rw [(bL h h.r).1];exact h.w2) (bL h h.r).2 (by rw [(bL h h.r).1];exact h.c)]
 unfold gD
 rw [e1,List.nil_append]
 refine List.flatMap_eq_nil_iff.2 fun i hi=>?_
 rw [List.mem_range'_1] at hi
 have hi':i<s.2.1.length:=by omega
 unfold vz
 split
 ·rfl
 ·rw [sC (by omega) (by rw [(bL h hi').1];exact h.w2) (bL h hi').2]
theorem vX {s:St} (h:GS s):iW s s.2.1=0:=by
 unfold iW;rw [um h];rfl
def Jk:List Nat:=[98,114,105,110,103]
section
variable {Cp Co:Addr}
noncomputable def L6 (Co:Addr):MF:=Nl fun sts _ _ b c ds=>match ds with
 | [r]=>(match pL Co [b,r],frF [b,r],b with
  | .ok (.int pr),.ok (.lst false ys),.tup [w,_,pl]=>if sts.length<1000 then .ok (.int pr) (M1 (sts++[st3 (.str Jk) (.tup [w,.tup ys,pl]) (c+pr)]) []) else .no
  | _,_,_=>.no)
 | _=>.no
end
noncomputable def eX:Ev->O:=(cw (oX (g2 eqF (g2 ixD (rvz 0) (ciz 0)) (g2 ixD (rvz 1) (ciz 0))) (g2 eqF (g2 bR (g2 ixD (rvz 0) (ciz 1)) (g2 ixD (rvz 0) (ciz 2))) (g2 ixD (rvz 1) (ciz 1)))))
def cR:Ev->O:=(aC eX oNx)
def wy (ai aP:List D->R D):Ev->O:=(BD 2 (vJ nlz))
noncomputable def jI (ai aP:List D->R D):Ev->O:=(aC (J8 2 (BN (gB2 gtD (gOf eS (aa (rvz 2) nlz)) (ciz 0)) (aH kn (aM 2 aP (aa (g2 ixD (rvz 2) (aH CA (ciz 1))) (aa (rvz 3) nlz))))) (aC (C4 2 4 (g2 ixD (rvz 2) (aH CA (ciz 1)))) (aC (CN 2 (aH CA (ciz 1)) (aH mkT (aa (g2 ixD (rvz 4) (ciz 0)) (aa (g2 ixD (rvz 4) (ciz 1)) (aa (g2 bR (g2 ixD (rvz 4) (ciz 2)) (ciz 1)) nlz))))) oNx)) (aC (EX 2 (aH mkT (aa (g2 ixD (rvz 3) (ciz 0)) (aa (g2 ixD (rvz 3) (ciz 1)) (aa (ciz 1) nlz))))) oNx)) oNx)
noncomputable def wC (ai aP:List D->R D):Ev->O:=(sK (kU 3) (aH ce (aM 2 ai (aa (rvz 0) (aa (rvz 1) nlz)))) (jI ai aP))
def wM (ai aP:List D->R D):Ev->O:=(cw (rvz 2))
noncomputable def oP (ai aP:List D->R D):Ev->O:=(aC (wy ai aP) (aC (wC ai aP) (BB 2 (aC (wM ai aP) oNx))))
def nY (am aW:List D->R D):Ev->O:=(BD 3 (vJ nlz))
noncomputable def gB (am aW:List D->R D):Ev->O:=(aC (eF 6 (aM 3 am (aa (rvz 0) (aa (g2 bR (rvz 1) (g2 fH (ciz 40) (rvz 4))) (aa (ciz 4) nlz))))) (aC (oIf (gB2 eqF (rvz 6) (ciz 0)) (aC (eF 5 (aM 3 aW (aa (rvz 0) (aa (g2 bR (g2 bR (rvz 1) (g2 fH (ciz 40) (rvz 4))) (ciz 1)) (aa (g2 ixD (rvz 2) (ciz 0)) nlz))))) oNx) (aC (oIf (gB2 ltD (rvz 6) (ciz 3)) (aC (eF 7 (aM 3 am (aa (rvz 0) (aa (g2 bR (g2 bR (rvz 1) (g2 fH (ciz 40) (rvz 4))) (ciz 30)) (aa (g2 ixD (rvz 2) (ciz 0)) nlz))))) (aC (eF 5 (g2 bR (g2 bR (gSl (rvz 5) (fun _=>R.ok none) (iy (rvz 7))) (g2 ixD (csz [97,98,32,35]) (aM 3 am (aa (rvz 0) (aa (g2 bR (g2 bR (rvz 1) (g2 fH (ciz 40) (rvz 4))) (ciz 31)) (aa (ciz 4) nlz)))))) (gSl (rvz 5) (iy (g2 bR (rvz 7) (ciz 1))) (fun _=>R.ok none)))) oNx)) oNx) oNx)) (aC (EX 3 (sv "str" kB (rvz 5) (aa (csz [32]) nlz))) oNx)))
noncomputable def zQz9 (am aW:List D->R D):Ev->O:=(sK (vT [4,5]) (aH qG (g2 ixD (rvz 2) (ciz 1))) (gB am aW))
noncomputable def oz (am aW:List D->R D):Ev->O:=(cw (gSl (rvz 3) (fun _=>R.ok none) (iy (g2 vM (gOf eS (aa (rvz 3) nlz)) (aM 3 am (aa (rvz 0) (aa (g2 bR (rvz 1) (ciz 399)) (aa (ciz 2) nlz))))))))
noncomputable def ic (am aW:List D->R D):Ev->O:=(aC (nY am aW) (aC (zQz9 am aW) (BB 3 (aC (oz am aW) oNx))))
noncomputable def mz:Ev->O:=(BD 2 (gm (aH ce (rvz 1)) [0] (fun _=>R.ok true) (g2 bR (rvz 0) (g2 fH (csz [32]) (g2 vM (g2 ixD (rvz 1) (ciz 0)) (gOf eS (aa (rvz 0) nlz)))))))
noncomputable def mj:Ev->O:=(cw (gOf nP (aa (g2 bR (rvz 2) (g2 fH (cu (vJ (aa (g2 fH (csz [32]) (g2 ixD (rvz 0) (ciz 0))) nlz))) (g2 vM (gOf eS (aa (g2 ixD (rvz 0) (ciz 1)) nlz)) (gOf eS (aa (rvz 1) nlz))))) nlz)))
def ik:Ev->O:=(aC mz (BB 2 (aC mj oNx)))
theorem qk:20000<=sizeLine:=by decide
theorem L5 (a b:D):ixD (.tup [a,b]) (.int 0)=some a:=rfl
theorem Mb (a b:D):ixD (.tup [a,b]) (.int 1)=some b:=rfl
theorem dg {α:Type} (l:List α):l=[]\/∃ l' b,l=l'++[b]:=by
 rcases List.eq_nil_or_concat l with h|⟨l',b,h⟩
 ·exact .inl h
 ·exact .inr ⟨l',b,by rw [h,List.concat_eq_append]⟩
theorem IV (f:Bool) (l:List D) (d:D):ixD (.lst f (l++[d])) (.int (-1))=some d:=by
 show atI (l++[d]) (-1)=some d
 unfold atI ixN
 rw [if_neg (by omega),if_pos (by simp;omega)]
 have:((-1:Int)+((l++[d]).length:Nat)).toNat=l.length:=by simp;omega
 rw [this];simp
theorem FX (l:List D) (d:D):ixN (l++[d]).length (-1)=some l.length:=by
 unfold ixN
 rw [if_neg (by omega),if_pos (by simp;omega)]
 congr 1;simp;omega
theorem Cf (l:List D) (d e:D):(l++[d]).set l.length e=l++[e]:=by simp
theorem yJ (g:Nat->Bool) (l:List Nat):l.take (l.length - (l.reverse.takeWhile g).length)=(l.reverse.dropWhile g).reverse:=by
 have e:l.reverse=l.reverse.takeWhile g++l.reverse.dropWhile g:=List.takeWhile_append_dropWhile.symm
 generalize l.reverse.takeWhile g=a at *
 generalize l.reverse.dropWhile g=b at *
 have e2:l=b.reverse++a.reverse:=by rw [<- List.reverse_append,<- e,List.reverse_reverse]
 subst e2
 rw [List.take_left' (by simp)]
theorem yV (g:Nat->Bool) (X:PySem.Str):(PySem.Txt.stripBy g false true X).cps.toList=(X.cps.toList.reverse.dropWhile g).reverse:=by
 rw [<- yJ]
 have hl:X.length=X.cps.toList.length:=by simp [PySem.Str.length]
 have h0:PySem.stripLo g false X=0:=rfl
 have h1:PySem.stripHi g true X 0=X.cps.toList.length - (X.cps.toList.reverse.takeWhile g).length:=by
  rw [<- hl];rfl
 unfold PySem.Txt.stripBy
 split
 ·rename_i hs
  unfold PySem.stripSame at hs
  rw [h0,h1,Bool.and_eq_true,beq_iff_eq,beq_iff_eq,hl] at hs
  rw [hs.2,List.take_length]
 ·unfold PySem.stripped
  rw [h0,h1]
  show (X.cps.extract 0 _).toList=_
  rw [Array.toList_extract]
  simp [List.extract_eq_take_drop]
theorem yk (x:List Nat) (c:Nat):fu x [c]=(x.reverse.dropWhile fun d=>[c].contains d).reverse:=by
 show (PySem.Txt.stripBy _ false true _).cps.toList=_
 rw [yV]
 have e:(fun d=>#[c].contains d)=fun d=>[c].contains d:=by funext d;simp
 show (x.toArray.toList.reverse.dropWhile fun d=>#[c].contains d).reverse=_
 rw [e]
theorem Bj {x:List Nat} {m:Nat} (h:bh x=true) (hl:x.length<=m):bh (fu x [32])=true/\(fu x [32]).length<=m:=by
 rw [yk]
 have hs:(x.reverse.dropWhile fun d=>[32].contains d).Sublist x.reverse:=List.dropWhile_sublist _
 refine ⟨?_,?_⟩
 ·simp only [bh,List.all_eq_true,List.mem_reverse] at h ⊢
  intro c hc
  exact h c (List.mem_reverse.1 (hs.subset hc))
 ·have:=hs.length_le
  simp at this ⊢
  omega
noncomputable def BA:List D->R D
 | [.tup [.int a,.int b,.int n],.tup [.int c,.int d]]=>.ok (.bl ((a==c) && (b+n==d)))
 | _=>.no
theorem t3i {P:Prop} (h:∀ a b n,d=.tup [.int a,.int b,.int n]->P) (h2:(∀ a b n,d ≠ .tup [.int a,.int b,.int n])->P):P:=by
 by_cases e:∃ a b n,d=.tup [.int a,.int b,.int n]
 ·obtain ⟨a,b,n,e⟩:=e;exact h a b n e
 ·exact h2 fun a b n q=>e ⟨a,b,n,q⟩
theorem t2i {P:Prop} (h:∀ a b,d=.tup [.int a,.int b]->P) (h2:(∀ a b,d ≠ .tup [.int a,.int b])->P):P:=by
 by_cases e:∃ a b,d=.tup [.int a,.int b]
 ·obtain ⟨a,b,e⟩:=e;exact h a b e
 ·exact h2 fun a b q=>e ⟨a,b,q⟩
theorem jX:∀ ds:List D,ds.length=2->BA ds=.no\/aq (cR (ar 2 ds))=BA ds:=by
 intro ds hl
 match ds,hl with
 | [d,e],_=>
  refine t3i (d:=d) (fun a b n h=>?_) fun h=>Or.inl ?_
  ·subst h
   refine t2i (d:=e) (fun c k h=>?_) fun h=>Or.inl ?_
   ·subst h
    refine Or.inr ?_
    show aq (aC _ _ [some (.val (.tup [.int a,.int b,.int n])),some (.val (.tup [.int c,.int k]))])=R.ok (.bl ((a==c) && (b+n==k)))
    have y0:=GG (.int a) (.int b) (.int n)
    have y1:=FD (.int a) (.int b) (.int n)
    have y2:=Mo (.int a) (.int b) (.int n)
    have z0:=L5 (.int c) (.int k)
    have z1:=Mb (.int c) (.int k)
    unfold eX
    clear hl
    cases q:(a==c)
    ·walk_at "run"
     all_goals rfl
    ·walk_at "run"
     all_goals rfl
   ·unfold BA
    split
    ·rename_i q;cases q;exact absurd rfl (h _ _)
    ·rfl
  ·unfold BA
   split
   ·rename_i q;cases q;exact absurd rfl (h _ _ _)
   ·rfl
noncomputable def spD (p:Nat×Nat):D:=.tup [.int (p.1:Int),.int (p.2:Int)]
noncomputable def snD (s:Nat×Nat×Nat):D:=.tup [.int (s.1:Int),.int (s.2.1:Int),.int (s.2.2:Int)]
noncomputable def jZ (acc:List (Nat×Nat×Nat)) (p:Nat×Nat):List (Nat×Nat×Nat):=match acc.getLast? with
 | some (k,c,n)=>if k=p.1/\c+n=p.2 then acc.dropLast++[(k,c,n+1)] else acc++[(p.1,p.2,1)]
 | none=>[(p.1,p.2,1)]
theorem sN (p:Nat×Nat):jZ [] p=[(p.1,p.2,1)]:=rfl
theorem qd (a:List (Nat×Nat×Nat)) (k c n:Nat):jZ (a++[(k,c,n)]) (k,c+n)=a++[(k,c,n+1)]:=by simp [jZ]
theorem lR (a:List (Nat×Nat×Nat)) (k c n:Nat) (p:Nat×Nat) (h : ¬ (k=p.1/\c+n=p.2)):jZ (a++[(k,c,n)]) p=a++[(k,c,n)]++[(p.1,p.2,1)]:=by simp [jZ,h]
theorem sy (a:List (Nat×Nat×Nat)) (p:Nat×Nat):(jZ a p).length<=a.length+1:=by
 rcases dg a with rfl|⟨a,⟨k,c,n⟩,rfl⟩
 ·simp [sN]
 ·by_cases h:k=p.1/\c+n=p.2
  ·obtain ⟨p1,p2⟩:=p
   obtain ⟨h1,h2⟩:=h
   dsimp only at h1 h2
   subst h1 h2;rw [qd];simp
  ·rw [lR _ _ _ _ _ h];simp
theorem yn (x0 x1 x4:Option Sl) (a:List (Nat×Nat×Nat)) (p:Nat×Nat) (ha:a.length<3000):∃ y4,jI F BA [x0,x1,some (.own (a.map snD)),some (.val (spD p)),x4]=.nx [x0,x1,some (.own ((jZ a p).map snD)),some (.val (spD p)),y4]:=by
 have lb:=qk
 have z:(a.map snD).length<sizeLine:=by simp;omega
 have m3:=t3
 have f2:∀ (a0 a1 a3 a4:Option Sl) (ds:List D),frz 2 [a0,a1,some (.own ds),a3,a4]=[a0,a1,some (.val (.lst false ds)),a3,a4]:=fun _ _ _ _ _=>rfl
 have o2:∀ (a0 a1 a3 a4:Option Sl) (ds:List D),ownAt [a0,a1,some (.own ds),a3,a4] 2=.ok ds:=fun _ _ _ _ _=>rfl
 have g1:=ng 1
 obtain ⟨pk,pc⟩:=p
 have ep:spD (pk,pc)=.tup [.int (pk:Int),.int (pc:Int)]:=rfl
 have w0:=L5 (.int (pk:Int)) (.int (pc:Int))
 have w1:=Mb (.int (pk:Int)) (.int (pc:Int))
 have tb:∀ b:Bool,kn (.bl b)=.ok b:=fun _=>rfl
 rw [ep]
 unfold jI
 rcases dg a with rfl|⟨a,⟨k,c,n⟩,rfl⟩
 ·refine ⟨x4,?_⟩
  have q1:decide ((0:Int) > 0)=false:=by decide
  have q0:((0:Nat):Int)=0:=rfl
  rw [sN]
  simp only [List.map_nil,List.map_cons] at z ⊢
  clear ha lb ep
  walk_at "run"
  all_goals rfl
 ·have em:(a++[(k,c,n)]).map snD=a.map snD++[.tup [.int (k:Int),.int (c:Int),.int (n:Int)]]:=by simp [snD]
  rw [em] at z ⊢
  have q1:decide (((a.map snD++[D.tup [.int (k:Int),.int (c:Int),.int (n:Int)]]).length:Int) > 0)=true:=by simp <;> omega
  have l1:=IV false (a.map snD) (.tup [.int (k:Int),.int (c:Int),.int (n:Int)])
  have y0:=GG (.int (k:Int)) (.int (c:Int)) (.int (n:Int))
  have y1:=FD (.int (k:Int)) (.int (c:Int)) (.int (n:Int))
  have y2:=Mo (.int (k:Int)) (.int (c:Int)) (.int (n:Int))
  by_cases h:k=pk/\c+n=pc
  ·refine ⟨some (.val (.tup [.int (k:Int),.int (c:Int),.int (n:Int)])),?_⟩
   obtain ⟨h1,h2⟩:=h
   have rb:BA [.tup [.int (k:Int),.int (c:Int),.int (n:Int)],.tup [.int (pk:Int),.int (pc:Int)]]=.ok (.bl true):=by
    show R.ok (D.bl (((k:Int)==(pk:Int)) && ((c:Int)+(n:Int)==(pc:Int))))=_
    have e1:((k:Int)==(pk:Int))=true:=by simp;omega
    have e2:((c:Int)+(n:Int)==(pc:Int))=true:=by simp;omega
    rw [e1,e2];rfl
   have i1:=FX (a.map snD) (.tup [.int (k:Int),.int (c:Int),.int (n:Int)])
   have s1:=Cf (a.map snD) (.tup [.int (k:Int),.int (c:Int),.int (n:Int)]) (.tup [.int (k:Int),.int (c:Int),.int ((n:Int)+1)])
   have e8:∀ i:Int,asI (.int i)=.ok i:=fun _=>rfl
   have e7:∀ i j l:Int,fl 10 (.tup [.int i,.int j,.int l])=true:=fun _ _ _=>rfl
   have e9:(jZ (a++[(k,c,n)]) (pk,pc)).map snD=a.map snD++[.tup [.int (k:Int),.int (c:Int),.int ((n:Int)+1)]]:=by rw [<- h1,<- h2,qd];simp [snD]
   rw [e9]
   clear ha lb em h1 h2 ep
   walk_at "run"
  ·refine ⟨x4,?_⟩
   have rb:BA [.tup [.int (k:Int),.int (c:Int),.int (n:Int)],.tup [.int (pk:Int),.int (pc:Int)]]=.ok (.bl false):=by
    show R.ok (D.bl (((k:Int)==(pk:Int)) && ((c:Int)+(n:Int)==(pc:Int))))=_
    by_cases h1:k=pk
    ·have e2:((c:Int)+(n:Int)==(pc:Int))=false:=by simp;omega
     rw [e2,Bool.and_false]
    ·have e1:((k:Int)==(pk:Int))=false:=by simp;omega
     rw [e1,Bool.false_and]
   have e9:(jZ (a++[(k,c,n)]) (pk,pc)).map snD=a.map snD++[.tup [.int (k:Int),.int (c:Int),.int (n:Int)]]++[.tup [.int (pk:Int),.int (pc:Int),.int 1]]:=by rw [lR _ _ _ _ _ h];simp [snD]
   rw [e9]
   clear ha lb em h ep
   walk_at "run"
theorem pI {F:List D->R D} (x0 x1:Option Sl):∀ (ps:List (Nat×Nat)) (a:List (Nat×Nat×Nat)) (x3 x4:Option Sl),a.length+ps.length<=2000->∃ y3 y4,cH (kU 3) (jI F BA) (ps.map spD) [x0,x1,some (.own (a.map snD)),x3,x4]=.nx [x0,x1,some (.own ((ps.foldl jZ a).map snD)),y3,y4]
 | [],a,x3,x4,_=>⟨x3,x4,rfl⟩
 | p::ps,a,x3,x4,h=>by
  simp only [List.length_cons] at h
  have hp:=sy a p
  obtain ⟨z4,hB⟩:=yn (F:=F) x0 x1 x4 a p (by omega)
  obtain ⟨y3,y4,ih⟩:=pI (F:=F) x0 x1 ps (jZ a p) (some (.val (spD p))) z4 (by omega)
  refine ⟨y3,y4,?_⟩
  rw [List.map_cons,eR (ρ1:=[x0,x1,some (.own (a.map snD)),some (.val (spD p)),x4]) rfl hB]
  exact ih
noncomputable def qC (wd:Nat) (x y:List Nat):List Nat:=(List.range wd).filter fun c=>!(x.getD c 0==y.getD c 0)
noncomputable def fR (wd:Nat):Nat->List (List Nat×List Nat)->List (Nat×Nat)
 | _,[]=>[]
 | k,p::ps=>(qC wd p.1 p.2).map (fun c=>(k,c))++fR wd (k+1) ps
noncomputable def prs (rows ys:List D):List (List Nat×List Nat):=List.zipWith (fun r y=>(uB r,uB y)) rows ys
theorem qW (wd:Nat) (rows:List D):∀ (ys:List D) (k:Nat),k+ys.length<=rows.length->cK wd rows k ys=(fR wd k (prs (rows.drop k) ys)).map spD
 | [],k,_=>by unfold prs;rw [List.zipWith_nil_right];rfl
 | y::ys,k,h=>by
  simp only [List.length_cons] at h
  have e:rows.drop k=rows.getD k .non::rows.drop (k+1):=by
   rw [List.drop_eq_getElem_cons (by omega),List.getD_eq_getElem?_getD,List.getElem?_eq_getElem (by omega)];rfl
  unfold prs
  rw [e,List.zipWith_cons_cons,cK,qW wd rows ys (k+1) (by omega)]
  unfold dn
  show _=(((qC wd (uB (rows.getD k .non)) (uB y)).map fun c=>(k,c))++fR wd (k+1) _).map spD
  rw [List.map_append,List.map_map];rfl
noncomputable def iS (acc:List (Nat×Nat)) (c:Nat):List (Nat×Nat):=match acc.getLast? with
 | some (c0,n)=>if c0+n=c then acc.dropLast++[(c0,n+1)] else acc++[(c,1)]
 | none=>[(c,1)]
def emb (k:Nat) (q:Nat×Nat):Nat×Nat×Nat:=(k,q.1,q.2)
theorem CV (a:List (Nat×Nat×Nat)) (acc:List (Nat×Nat)) (k c:Nat) (h:∀ s∈a,s.1<k):jZ (a++acc.map (emb k)) (k,c)=a++(iS acc c).map (emb k):=by
 rcases dg acc with rfl|⟨acc,⟨c0,n⟩,rfl⟩
 ·have e:iS [] c=[(c,1)]:=rfl
  rw [e,List.map_nil,List.append_nil]
  rcases dg a with rfl|⟨a,⟨k',c',n'⟩,rfl⟩
  ·rfl
  ·have:=h (k',c',n') (by simp)
   rw [lR _ _ _ _ _ (fun z=>by have z1:k'=k:=z.1;have:k'<k:=this;omega)];rfl
 ·have em:a++(acc++[(c0,n)]).map (emb k)=(a++acc.map (emb k))++[(k,c0,n)]:=by simp [emb]
  rw [em]
  by_cases e:c0+n=c
  ·subst e
   have e2:iS (acc++[(c0,n)]) (c0+n)=acc++[(c0,n+1)]:=by simp [iS]
   rw [qd,e2];simp [emb]
  ·have e2:iS (acc++[(c0,n)]) c=acc++[(c0,n)]++[(c,1)]:=by simp [iS,e]
   rw [lR _ _ _ _ _ (fun z=>e z.2),e2];simp [emb]
theorem xg (a:List (Nat×Nat×Nat)) (k:Nat) (h:∀ s∈a,s.1<k):∀ (cols:List Nat) (acc:List (Nat×Nat)),(cols.map fun c=>(k,c)).foldl jZ (a++acc.map (emb k))=a++(cols.foldl iS acc).map (emb k)
 | [],acc=>rfl
 | c::cols,acc=>by rw [List.map_cons,List.foldl_cons,CV a acc k c h,xg a k h cols,List.foldl_cons]
noncomputable def ip (wd:Nat) (p:List Nat×List Nat):List (Nat×Nat):=(qC wd p.1 p.2).foldl iS []
noncomputable def spP (wd:Nat):Nat->List (List Nat×List Nat)->List (Nat×Nat×Nat)
 | _,[]=>[]
 | k,p::ps=>(ip wd p).map (emb k)++spP wd (k+1) ps
theorem wU (wd:Nat):∀ (ps:List (List Nat×List Nat)) (k:Nat) (a:List (Nat×Nat×Nat)),(∀ s∈a,s.1<k)->(fR wd k ps).foldl jZ a=a++spP wd k ps
 | [],k,a,_=>by rw [fR,spP,List.append_nil];rfl
 | p::ps,k,a,h=>by
  have e:=xg a k h (qC wd p.1 p.2) []
  rw [List.map_nil,List.append_nil] at e
  rw [fR,List.foldl_append,e,wU wd ps (k+1),spP,List.append_assoc]
  ·rfl
  ·intro s hs
   rcases List.mem_append.1 hs with hs|hs
   ·have:=h s hs;omega
   ·obtain ⟨q,_,rfl⟩:=List.mem_map.1 hs
    show k<k+1;omega
theorem fY (wd:Nat):∀ (ps:List (List Nat×List Nat)) (k:Nat),(fR wd k ps).length<=wd * ps.length
 | [],_=>by simp [fR]
 | p::ps,k=>by
  have ih:=fY wd ps (k+1)
  have h1:(qC wd p.1 p.2).length<=wd:=Nat.le_trans (List.length_filter_le ..) (by simp)
  rw [fR,List.length_append,List.length_map,List.length_cons,Nat.mul_succ];omega
noncomputable def yX:List D->R D
 | [.tup [.int wd,.tup rows,p],.lst _ ds]=>match dZ ds with
  | some xs=>if screen (.tup [.int wd,.tup rows,p])=true/\bi rows.length wd.toNat xs=true then .ok (.lst false ((spP wd.toNat 0 (prs rows (cX rows.length wd.toNat xs))).map snD)) else .no
  | none=>.no
 | _=>.no
theorem Dc:∀ ds:List D,ds.length=2->yX ds=.no\/aq (oP usF BA (ar 5 ds))=yX ds:=by
 intro ds hl
 match ds,hl with
 | [d,l],_=>
  refine Ga (d:=d) (fun wd rows p e=>?_) fun e=>Or.inl ?_
  ·subst e
   cases l <;> first|exact Or.inl rfl|skip
   rename_i f ds hl
   cases hs:dZ ds with
   | none=>exact Or.inl (by simp only [yX,hs])
   | some xs=>
    by_cases hc:screen (.tup [.int wd,.tup rows,p])=true/\bi rows.length wd.toNat xs=true
    ·refine Or.inr ?_
     have e1:yX [.tup [.int wd,.tup rows,p],.lst f ds]=.ok (.lst false ((spP wd.toNat 0 (prs rows (cX rows.length wd.toNat xs))).map snD)):=by simp only [yX,hs];exact if_pos hc
     have e2:usF [.tup [.int wd,.tup rows,p],.lst f ds]=.ok (.lst false (cK wd.toNat rows 0 (cX rows.length wd.toNat xs))):=by simp only [usF,hs];exact if_pos hc
     obtain ⟨⟨w1,w2⟩,⟨n1,n2⟩,_,_⟩:=mF hc.1
     rw [e1]
     obtain ⟨wd,rfl⟩:=Int.eq_ofNat_of_zero_le (a:=wd) (by omega)
     obtain ⟨hcs,hcf⟩:=hc
     simp only [Int.toNat_natCast] at e2 hcf ⊢
     obtain ⟨q1,q2⟩:=kL hcf
     rw [qW wd rows _ 0 (by omega),List.drop_zero] at e2
     have hsl:=fY wd (prs rows (cX rows.length wd xs)) 0
     have hpl:(prs rows (cX rows.length wd xs)).length=rows.length:=by unfold prs;rw [List.length_zipWith];omega
     rw [hpl] at hsl
     have hm:wd * rows.length<=40 * 12:=Nat.mul_le_mul (by omega) (by omega)
     obtain ⟨y3,y4,hL⟩:=pI (F:=usF) (some (.val (.tup [.int (wd:Int),.tup rows,p]))) (some (.val (.lst f ds))) (fR wd 0 (prs rows (cX rows.length wd xs))) [] none none (by simp;omega)
     rw [wU wd _ 0 [] (fun s h=>by cases h),List.nil_append] at hL
     have hL:cH (kU 3) (jI usF BA) ((fR wd 0 (prs rows (cX rows.length wd xs))).map spD) [some (.val (.tup [.int (wd:Int),.tup rows,p])),some (.val (.lst f ds)),some (.own []),none,none]=.nx [some (.val (.tup [.int (wd:Int),.tup rows,p])),some (.val (.lst f ds)),some (.own ((spP wd 0 (prs rows (cX rows.length wd xs))).map snD)),y3,y4]:=hL
     show aq (aC _ _ [some (.val (.tup [.int wd,.tup rows,p])),some (.val (.lst f ds)),none,none,none])=_
     have f2:∀ (a0 a1 a3 a4:Option Sl) (ds:List D),frz 2 [a0,a1,some (.own ds),a3,a4]=[a0,a1,some (.val (.lst false ds)),a3,a4]:=fun _ _ _ _ _=>rfl
     have il:=JE
     have z0:(0:Nat)<=sizeLine:=Nat.zero_le _
     unfold wy wC wM
     clear hl hs e1 w1 w2 n1 n2 q1 q2 hcs hcf hsl hpl hm
     walk_at "run"
    ·exact Or.inl (by simp only [yX,hs];exact if_neg hc)
  ·unfold yX
   split
   ·rename_i q;cases q;exact absurd rfl (e _ _ _)
   ·rfl
noncomputable def chG (ns:List Int) (k:Nat):Nat:=([97,98,32,35]:List Nat).getD (dk ns k 4).toNat 0
theorem Iq (ns:List Int) (k:Nat):ixD (.str [97,98,32,35]) (.int (dk ns k 4))=some (.str [chG ns k]):=by
 have h:=bF ns k (m:=4) (by decide)
 unfold chG
 generalize dk ns k 4=v at h
 have:v=0\/v=1\/v=2\/v=3:=by omega
 rcases this with rfl|rfl|rfl|rfl <;> rfl
theorem zz (ns:List Int) (k:Nat):32<=chG ns k/\chG ns k<=126:=by
 have h:=bF ns k (m:=4) (by decide)
 unfold chG
 generalize dk ns k 4=v at h
 have:v=0\/v=1\/v=2\/v=3:=by omega
 rcases this with rfl|rfl|rfl|rfl <;> decide
noncomputable def DA (ns:List Int) (a wd:Nat) (x:List Nat):List Nat:=
 if dk ns a 4=0 then yL ns (a+1) wd else if dk ns a 4<3 then x.take (dk ns (a+30) wd).toNat++[chG ns (a+31)]++x.drop ((dk ns (a+30) wd).toNat+1) else x
theorem EY (ns:List Int) (a:Nat) (hw:1<=wd) {x:List Nat} (hl:x.length=wd) (hp:bh x=true):bh (DA ns a wd x)=true/\(DA ns a wd x).length=wd:=by
 have h:=bF ns (a+30) (m:=(wd:Int)) (by omega)
 unfold DA
 split
 ·exact ⟨pC _ _ _,nM _ _ _⟩
 ·split
  ·have hc:=zz ns (a+31)
   refine ⟨ni (ni (xY _ hp) ?_) (yU _ hp),by simp;omega⟩
   simp [bh,hc.1,hc.2]
  ·exact ⟨hp,hl⟩
noncomputable def gTx (ns:List Int) (a wd k:Nat) (r:D):List Nat:=fu (DA ns (a+40 * k) wd (uB r)) [32]
noncomputable def mU (ns:List Int) (a wd:Nat):Nat->List D->List (List Nat)
 | _,[]=>[]
 | k,r::rs=>gTx ns a wd k r::mU ns a wd (k+1) rs
theorem gY (ns:List Int) (a wd:Nat):∀ (rs:List D) (k:Nat),(mU ns a wd k rs).length=rs.length
 | [],_=>rfl
 | r::rs,k=>by rw [mU,List.length_cons,gY ns a wd rs,List.length_cons]
theorem wv (ns:List Int) (a:Nat) {wd:Nat} (hw:1<=wd):∀ (rs:List D) (k:Nat),lr rs wd->∀ x∈mU ns a wd k rs,bh x=true/\x.length<=wd
 | [],_,_,x,h=>by cases h
 | r::rs,k,hr,x,h=>by
  rcases List.mem_cons.1 h with rfl|h
  ·obtain ⟨y,rfl,h1,h2⟩:=hr r (List.mem_cons_self ..)
   obtain ⟨a1,a2⟩:=EY ns (a+40 * k) hw h1 h2
   exact Bj a1 (by show (DA ns (a+40 * k) wd y).length<=wd;omega)
  ·exact wv ns a hw rs (k+1) (fun r m=>hr r (List.mem_cons_of_mem _ m)) x h
theorem sd (ns:List Int) (fz:Bool) (a:Nat) {wd:Nat} (hw:1<=wd) (hw2:wd<=40) (rows:D) (p:D):∀ (rs:List D) (k:Nat) (x4 x5 x6 x7:Option Sl) (acc:List D),lr rs wd->acc.length+rs.length<=100->∃ y4 y5 y6 y7,cH (vT [4,5]) (gB fD Dz) (bH k rs) [some (.val (.lst fz (ns.map .int))),some (.val (.int (a:Int))),some (.val (.tup [.int (wd:Int),rows,p])),some (.own acc),x4,x5,x6,x7]
  = .nx [some (.val (.lst fz (ns.map .int))),some (.val (.int (a:Int))),some (.val (.tup [.int (wd:Int),rows,p])),some (.own (acc++(mU ns a wd k rs).map .str)),y4,y5,y6,y7]
 | [],k,x4,x5,x6,x7,acc,_,_=>⟨x4,x5,x6,x7,by rw [lw,pY,mU,List.map_nil,List.append_nil]⟩
 | r::rs,k,x4,x5,x6,x7,acc,hr,ha=>by
  simp only [List.length_cons] at ha
  obtain ⟨x,rfl,h1,h2⟩:=hr r (List.mem_cons_self ..)
  have hB:∃ y5 y6 y7,gB fD Dz [some (.val (.lst fz (ns.map .int))),some (.val (.int (a:Int))),some (.val (.tup [.int (wd:Int),rows,p])),some (.own acc),some (.val (.int (k:Int))),some (.val (.str x)),x6,x7]
    = .nx [some (.val (.lst fz (ns.map .int))),some (.val (.int (a:Int))),some (.val (.tup [.int (wd:Int),rows,p])),some (.own (acc++[.str (fu (DA ns (a+40 * k) wd x) [32])])),some (.val (.int (k:Int))),y5,y6,y7]:=by
   have lb:=qk
   have hpk:=bF ns (a+40 * k) (m:=4) (by decide)
   have hps:=bF ns (a+40 * k+30) (m:=(wd:Int)) (by omega)
   obtain ⟨sp,esp⟩:=Int.eq_ofNat_of_zero_le hps.1
   have m1:fH (.int 40) (.int (k:Int))=some (.int ((40 * k:Nat):Int)):=by rw [DQ (by decide)];congr 2
   have k1:(a:Int)+((40 * k:Nat):Int)=((a+40 * k:Nat):Int):=by omega
   have k2:((a+40 * k:Nat):Int)+1=((a+40 * k+1:Nat):Int):=by omega
   have k3:((a+40 * k:Nat):Int)+30=((a+40 * k+30:Nat):Int):=by omega
   have k4:((a+40 * k:Nat):Int)+31=((a+40 * k+31:Nat):Int):=by omega
   have k5:(sp:Int)+1=((sp+1:Nat):Int):=by omega
   have p1:fD [.lst fz (ns.map .int),.int ((a+40 * k:Nat):Int),.int 4]=.ok (.int (dk ns (a+40 * k) 4)):=cy (by decide)
   have p2:fD [.lst fz (ns.map .int),.int ((a+40 * k+30:Nat):Int),.int (wd:Int)]=.ok (.int (sp:Int)):=by rw [<- esp];exact cy (by omega)
   have p3:fD [.lst fz (ns.map .int),.int ((a+40 * k+31:Nat):Int),.int 4]=.ok (.int (dk ns (a+40 * k+31) 4)):=cy (by decide)
   have r1:Dz [.lst fz (ns.map .int),.int ((a+40 * k+1:Nat):Int),.int (wd:Int)]=.ok (.str (yL ns (a+40 * k+1) wd)):=xb (by omega)
   have c1:=Iq ns (a+40 * k+31)
   have y0:=GG (.int (wd:Int)) rows p
   have d1:=D1 x sp
   have d2:=Cv x (sp+1)
   have a1:bR (.str (x.take sp)) (.str [chG ns (a+40 * k+31)])=some (.str (x.take sp++[chG ns (a+40 * k+31)])):=vB (by simp;omega)
   have a2:bR (.str (x.take sp++[chG ns (a+40 * k+31)])) (.str (x.drop (sp+1)))=some (.str (x.take sp++[chG ns (a+40 * k+31)]++x.drop (sp+1))):=vB (by simp;omega)
   have z:acc.length<sizeLine:=by omega
   have o3:∀ (a0 a1 a2 a4 a5 a6 a7:Option Sl) (ds:List D),ownAt [a0,a1,a2,some (.own ds),a4,a5,a6,a7] 3=.ok ds:=fun _ _ _ _ _ _ _ _=>rfl
   have kd:∀ z:List Nat,oB "str" (.str z)=true:=fun _=>rfl
   have rs':∀ z w:List Nat,kB (.str z) [.str w]=some (.str (fu z w)):=fun _ _=>rfl
   unfold gB DA
   rw [esp,Int.toNat_natCast]
   by_cases q:dk ns (a+40 * k) 4=0
   ·refine ⟨some (.val (.str (yL ns (a+40 * k+1) wd))),some (.val (.int (dk ns (a+40 * k) 4))),x7,?_⟩
    have q1:(dk ns (a+40 * k) 4==0)=true:=by simp [q]
    rw [if_pos q]
    clear hr ha h1 h2 lb hpk hps esp q
    walk_at "run"
   ·have q1:(dk ns (a+40 * k) 4==0)=false:=by simp [q]
    rw [if_neg q]
    by_cases q2:dk ns (a+40 * k) 4<3
    ·refine ⟨some (.val (.str (x.take sp++[chG ns (a+40 * k+31)]++x.drop (sp+1)))),some (.val (.int (dk ns (a+40 * k) 4))),some (.val (.int (sp:Int))),?_⟩
     have q3:decide (dk ns (a+40 * k) 4<3)=true:=by simp [q2]
     rw [if_pos q2]
     clear hr ha h1 h2 lb hpk hps esp q q2
     walk_at "run"
    ·refine ⟨some (.val (.str x)),some (.val (.int (dk ns (a+40 * k) 4))),x7,?_⟩
     have q3:decide (dk ns (a+40 * k) 4<3)=false:=by simp;omega
     rw [if_neg q2]
     clear hr ha h1 h2 lb hpk hps esp q q2
     walk_at "run"
  obtain ⟨z5,z6,z7,hB⟩:=hB
  obtain ⟨y4,y5,y6,y7,ih⟩:=sd ns fz a hw hw2 rows p rs (k+1) (some (.val (.int (k:Int)))) z5 z6 z7 (acc++[.str (fu (DA ns (a+40 * k) wd x) [32])]) (fun r m=>hr r (List.mem_cons_of_mem _ m)) (by simp;omega)
  refine ⟨y4,y5,y6,y7,?_⟩
  rw [jr,eR (ρ1:=[some (.val (.lst fz (ns.map .int))),some (.val (.int (a:Int))),some (.val (.tup [.int (wd:Int),rows,p])),some (.own acc),some (.val (.int (k:Int))),some (.val (.str x)),x6,x7]) rfl hB,ih,mU,List.map_cons,List.append_assoc];rfl
noncomputable def rq (ns:List Int) (a wd:Nat) (rows:List D):List (List Nat):=(mU ns a wd 0 rows).take (rows.length - (dk ns (a+399) 2).toNat)
noncomputable def yW:List D->R D
 | [.lst _ ds,.int a,.tup [.int wd,.tup rows,p]]=>match lM ds with
  | some ns=>if 0<=a/\screen (.tup [.int wd,.tup rows,p])=true then .ok (.lst false ((rq ns a.toNat wd.toNat rows).map .str)) else .no
  | none=>.no
 | _=>.no
theorem vn:∀ ds:List D,ds.length=3->yW ds=.no\/aq (ic fD Dz (ar 8 ds))=yW ds:=by
 intro ds hl
 match ds,hl with
 | [l,a,d],_=>
  cases l <;> first|exact Or.inl rfl|skip
  cases a <;> first|exact Or.inl rfl|skip
  rename_i fz ds a hl
  refine Ga (d:=d) (fun wd rows p e=>?_) fun e=>Or.inl ?_
  ·subst e
   cases hi:lM ds with
   | none=>exact Or.inl (by simp only [yW,hi])
   | some ns=>
    by_cases hc:0<=a/\screen (.tup [.int wd,.tup rows,p])=true
    ·refine Or.inr ?_
     have e1:yW [.lst fz ds,.int a,.tup [.int wd,.tup rows,p]]=.ok (.lst false ((rq ns a.toNat wd.toNat rows).map .str)):=by simp only [yW,hi];exact if_pos hc
     rw [e1]
     have hds:=qO hi
     subst hds
     obtain ⟨⟨w1,w2⟩,⟨n1,n2⟩,_,_⟩:=mF hc.2
     obtain ⟨a,rfl⟩:=Int.eq_ofNat_of_zero_le hc.1
     obtain ⟨wd,rfl⟩:=Int.eq_ofNat_of_zero_le (a:=wd) (by omega)
     simp only [Int.toNat_natCast]
     have hrs:=A3 hc.2
     obtain ⟨y4,y5,y6,y7,hL⟩:=sd ns fz a (wd:=wd) (by omega) (by omega) (.tup rows) p rows 0 none none none none [] hrs (by simp;omega)
     rw [List.nil_append] at hL
     have hpk:=bF ns (a+399) (m:=2) (by decide)
     obtain ⟨e,ee⟩:=Int.eq_ofNat_of_zero_le hpk.1
     have k1:(a:Int)+399=((a+399:Nat):Int):=by omega
     have p1:fD [.lst fz (ns.map .int),.int ((a+399:Nat):Int),.int 2]=.ok (.int (e:Int)):=by rw [<- ee];exact cy (by decide)
     have k2:(((mU ns a wd 0 rows).map D.str).length:Int) - (e:Int)=((rows.length - e:Nat):Int):=by rw [List.length_map,gY];omega
     have d1:=D1 ((mU ns a wd 0 rows).map D.str) (rows.length - e)
     have eg:(rq ns a wd rows).map D.str=((mU ns a wd 0 rows).map D.str).take (rows.length - e):=by unfold rq;rw [ee,Int.toNat_natCast,List.map_take]
     rw [eg]
     have en:∀ l:List D,qG (.tup l)=.ok (bH 0 l):=fun _=>rfl
     have y1:=FD (.int (wd:Int)) (.tup rows) p
     have f3:∀ (a0 a1 a2 a4 a5 a6 a7:Option Sl) (ds:List D),frz 3 [a0,a1,a2,some (.own ds),a4,a5,a6,a7]=[a0,a1,a2,some (.val (.lst false ds)),a4,a5,a6,a7]:=fun _ _ _ _ _ _ _ _=>rfl
     have z0:(0:Nat)<=sizeLine:=Nat.zero_le _
     show aq (aC _ _ [some (.val (.lst fz (ns.map .int))),some (.val (.int a)),some (.val (.tup [.int wd,.tup rows,p])),none,none,none,none,none])=_
     unfold nY zQz9 oz
     clear hl hi hc e1 w1 w2 n1 n2 hrs hpk ee eg
     walk_at "run"
    ·exact Or.inl (by simp only [yW,hi];exact if_neg hc)
  ·unfold yW
   split
   ·rename_i q;cases q;exact absurd rfl (e _ _ _)
   ·rfl
noncomputable def zR:List D->R D
 | [.tup [.int wd,.tup rows,_],.lst _ ds]=>match dZ ds with
  | some xs=>if (0<=wd/\wd<=100)/\rows.length<=100/\bi rows.length wd.toNat xs=true then .ok (.tup (cX rows.length wd.toNat xs)) else .no
  | none=>.no
 | _=>.no
theorem vQ:∀ ds:List D,ds.length=2->zR ds=.no\/aq (ik (ar 3 ds))=zR ds:=by
 intro ds hl
 match ds,hl with
 | [d,l],_=>
  refine Ga (d:=d) (fun wd rows p e=>?_) fun e=>Or.inl ?_
  ·subst e
   cases l <;> first|exact Or.inl rfl|skip
   rename_i f ds hl
   cases hs:dZ ds with
   | none=>exact Or.inl (by simp only [zR,hs])
   | some xs=>
    by_cases hc:(0<=wd/\wd<=100)/\rows.length<=100/\bi rows.length wd.toNat xs=true
    ·refine Or.inr ?_
     have e1:zR [.tup [.int wd,.tup rows,p],.lst f ds]=.ok (.tup (cX rows.length wd.toNat xs)):=by simp only [zR,hs];exact if_pos hc
     rw [e1]
     have hds:=jK hs
     subst hds
     obtain ⟨⟨w0,w1⟩,n1,hf⟩:=hc
     obtain ⟨wd,rfl⟩:=Int.eq_ofNat_of_zero_le w0
     simp only [Int.toNat_natCast] at hf ⊢
     simp only [bi,txt,Bool.and_eq_true,decide_eq_true_eq,List.all_eq_true] at hf
     have lb:=qk
     show aq (aC _ _ [some (.val (.tup [.int wd,.tup rows,p])),some (.val (.lst f (xs.map .str))),none])=_
     have x0:=GG (.int (wd:Int)) (.tup rows) p
     have x1:=FD (.int (wd:Int)) (.tup rows) p
     have k1:((rows.length:Int) - ((xs.map D.str).length:Int))=((rows.length - xs.length:Nat):Int):=by rw [List.length_map];omega
     have m1:fH (.str [32]) (.int (wd:Int))=some (.str (List.replicate wd 32)):=Fs (by omega)
     have m2:fH (.lst false [.str (List.replicate wd 32)]) (.int ((rows.length - xs.length:Nat):Int))=some (.lst false (List.replicate (rows.length - xs.length) (.str (List.replicate wd 32)))):=HE (by omega)
     have i2:gW [0] [some (.val (.tup [.int wd,.tup rows,p])),some (.val (.lst f (xs.map .str))),none]=[none,some (.val (.tup [.int wd,.tup rows,p]))]:=rfl
     have e:eO (fun _=>R.ok true) (g2 bR (rvz 0) (g2 fH (csz [32]) (g2 vM (g2 ixD (rvz 1) (ciz 0)) (gOf eS (aa (rvz 0) nlz))))) (xs.map .str) [none,some (.val (.tup [.int wd,.tup rows,p]))]=.ok (xs.map fun x=>.str (wD wd x)):=by
      have:=eB (gt:=fun _=>R.ok true) (ge:=g2 bR (rvz 0) (g2 fH (csz [32]) (g2 vM (g2 ixD (rvz 1) (ciz 0)) (gOf eS (aa (rvz 0) nlz))))) (fun d=>match d with|.str x=>.str (wD wd x)|d=>d) [some (.val (.tup [.int wd,.tup rows,p]))] (xs.map .str) none fun d hd=>⟨rfl,by
       obtain ⟨x,hx,rfl⟩:=List.mem_map.1 hd
       have hx2:=(hf.2 x hx).2
       have s1:(wd:Int) - (x.length:Int)=((wd - x.length:Nat):Int):=by omega
       have s2:fH (.str [32]) (.int ((wd - x.length:Nat):Int))=some (.str (List.replicate (wd - x.length) 32)):=Fs (by omega)
       have s3:bR (.str x) (.str (List.replicate (wd - x.length) 32))=some (.str (wD wd x)):=vB (by simp;omega)
       clear hl hs e1 hd hx hf hx2 i2 k1 m1 m2 x1
       walk_at "run"⟩
      rw [this,List.map_map];rfl
     have il:=JE
     have z1:(xs.map fun x=>D.str (wD wd x)).length<=sizeLine:=by simp;omega
     have z2:(1:Nat)<=sizeLine:=by omega
     have a1:bR (.lst false (xs.map fun x=>.str (wD wd x))) (.lst false (List.replicate (rows.length - xs.length) (.str (List.replicate wd 32))))=some (.lst false (cX rows.length wd xs)):=IT (by simp;omega)
     have f2:∀ (a0 a1:Option Sl) (ds:List D),frz 2 [a0,a1,some (.own ds)]=[a0,a1,some (.val (.lst false ds))]:=fun _ _ _=>rfl
     have tt:=tl_ (cX rows.length wd xs)
     unfold mz mj
     clear hl hs e1 hf w0 w1 n1 lb
     walk_at "run"
    ·exact Or.inl (by simp only [zR,hs];exact if_neg hc)
  ·unfold zR
   split
   ·rename_i q;cases q;exact absurd rfl (e _ _ _)
   ·rfl
theorem GR {ns:List Int} {a:Nat} {s:St} (h:GS s):yW [.lst fz (ns.map .int),.int (a:Int),sD s]=.ok (.lst false ((rq ns a s.1 (s.2.1.map .str)).map .str)):=by
 show (match lM (ns.map .int) with
  | some ns=>if 0<=(a:Int)/\screen (sD s)=true then R.ok (D.lst false ((rq ns (a:Int).toNat (s.1:Int).toNat (s.2.1.map .str)).map .str)) else .no
  | none=>.no)=_
 rw [oy]
 exact if_pos ⟨by omega,h.screen⟩
theorem FW {ns:List Int} {a:Nat} {s:St} (h:GS s):bi s.2.1.length s.1 (rq ns a s.1 (s.2.1.map .str))=true:=by
 have hr:lr (s.2.1.map D.str) s.1:=fun r hr=>by
  obtain ⟨x,hx,rfl⟩:=List.mem_map.1 hr
  exact ⟨x,rfl,h.l x hx⟩
 have h1:=wv ns a h.w1 (s.2.1.map .str) 0 hr
 have h2:=gY ns a s.1 (s.2.1.map .str) 0
 unfold bi rq
 rw [Bool.and_eq_true,decide_eq_true_eq,List.all_eq_true]
 refine ⟨?_,fun x hx=>?_⟩
 ·rw [List.length_take,h2,List.length_map];omega
 ·have:=h1 x (List.mem_of_mem_take hx)
  unfold txt;rw [this.1,decide_eq_true this.2];rfl
theorem I9 {s:St} (h:GS s) {xs:List (List Nat)} (hx:bi s.2.1.length s.1 xs=true) (f:Bool):zR [sD s,.lst f (xs.map .str)]=.ok (.tup ((bt s.2.1.length s.1 xs).map .str)):=by
 have h1:=h.w2
 have h2:=h.m
 show (match L2.dZ (xs.map .str) with
  | some ys=>if (0<=(s.1:Int)/\(s.1:Int)<=100)/\(s.2.1.map D.str).length<=100/\bi (s.2.1.map D.str).length (s.1:Int).toNat ys=true then R.ok (D.tup (cX (s.2.1.map D.str).length (s.1:Int).toNat ys)) else .no
  | none=>.no)=_
 rw [el]
 dsimp only
 rw [if_pos ⟨⟨by omega,by omega⟩,by rw [List.length_map];omega,by rw [List.length_map];exact hx⟩,List.length_map,fT];rfl
def gj (l:List (Nat×Nat)):Nat:=(l.map fun q=>2+q.2).sum
noncomputable def unl (old new:List Nat) (c:Nat):Bool:=!(old.getD c 0==new.getD c 0)
noncomputable def spU (old new:List Nat) (j:Nat):List (Nat×Nat):=((List.range j).filter (unl old new)).foldl iS []
noncomputable def opn (l:List (Nat×Nat)) (j:Nat):Bool:=match l.getLast? with
 | some (c,n)=>c+n==j
 | none=>false
theorem iK {l:List (Nat×Nat)} (h:opn l j=true):∃ a c n,l=a++[(c,n)]/\c+n=j/\iS l j=a++[(c,n+1)]:=by
 rcases dg l with rfl|⟨a,⟨c,n⟩,rfl⟩
 ·cases h
 ·have e:c+n=j:=by simpa [opn] using h
  exact ⟨a,c,n,rfl,e,by simp [iS,e]⟩
theorem iQ {l:List (Nat×Nat)} (h:opn l j=false):iS l j=l++[(j,1)]:=by
 rcases dg l with rfl|⟨a,⟨c,n⟩,rfl⟩
 ·rfl
 ·have e:c+n≠j:=by simpa [opn] using h
  simp [iS,e]
theorem qS (old new:List Nat) (j:Nat):spU old new (j+1)=if unl old new j=true then iS (spU old new j) j else spU old new j:=by
 unfold spU
 rw [List.range_succ,List.filter_append]
 by_cases h:unl old new j=true
 ·rw [if_pos h,List.filter_cons_of_pos h,List.filter_nil,List.foldl_append];rfl
 ·rw [if_neg h,List.filter_cons_of_neg h,List.filter_nil,List.append_nil]
structure SpOk (l:List (Nat×Nat)) (j:Nat):Prop where
 e:∀ q∈l,1<=q.2/\q.1+q.2<=j
theorem wz (old new:List Nat):∀ j,SpOk (spU old new j) j
 | 0=>⟨fun _ h=>by cases h⟩
 | j+1=>by
  have ih:=(wz old new j).e
  rw [qS]
  split
  ·cases e:opn (spU old new j) j with
   | true=>
    obtain ⟨a,c,n,e1,e2,e3⟩:=iK e
    rw [e1] at ih
    rw [e3]
    refine ⟨fun q hq=>?_⟩
    rcases List.mem_append.1 hq with hq|hq
    ·have:=ih q (List.mem_append_left _ hq);omega
    ·rw [List.mem_singleton.1 hq];dsimp only;omega
   | false=>
    rw [iQ e]
    refine ⟨fun q hq=>?_⟩
    rcases List.mem_append.1 hq with hq|hq
    ·have:=ih q hq;omega
    ·rw [List.mem_singleton.1 hq];dsimp only;omega
  ·exact ⟨fun q hq=>by have:=ih q hq;omega⟩
theorem Ce {l:List (Nat×Nat)} (h:SpOk l j):opn l (j+1)=false:=by
 rcases dg l with rfl|⟨a,⟨c,n⟩,rfl⟩
 ·rfl
 ·have:=h.e (c,n) (by simp)
  simp [opn];dsimp only at this;omega
theorem om (a b:List (Nat×Nat)):gj (a++b)=gj a+gj b:=by simp [gj]
theorem zN (n:Nat) (old new:List Nat):∀ j,Has ((List.range' 0 j).foldl (xS n old new) (m0 (false,false))) (opn (spU old new j) j,false) (gj (spU old new j))
 | 0=>HA _
 | j+1=>by
  have ih:=zN n old new j
  rw [show List.range' 0 (j+1)=List.range' 0 j++[j] by rw [List.range'_concat];simp,List.foldl_append,qS]
  generalize (List.range' 0 j).foldl (xS n old new) (m0 (false,false))=m at ih ⊢
  show Has (xS n old new m j) _ _
  unfold xS jF
  by_cases h:unl old new j=true
  ·rw [if_pos h]
   cases e:opn (spU old new j) j with
   | true=>
    obtain ⟨a,c,k,e1,e2,e3⟩:=iK e
    rw [e] at ih
    rw [e3,show opn (a++[(c,k+1)]) (j+1)=true by simp [opn];omega,show gj (a++[(c,k+1)])=gj (spU old new j)+1 by rw [e1,om,om];simp [gj];omega]
    exact Has.say ih.keep.keep.keep
   | false=>
    rw [e] at ih
    rw [iQ e,show opn (spU old new j++[(j,1)]) (j+1)=true by simp [opn],show gj (spU old new j++[(j,1)])=gj (spU old new j)+bQ (.go n j)+1 by rw [om];simp [gj,bQ]]
    exact Has.say (Has.keep (Has.keep (Has.move ih)))
  ·rw [if_neg h,Ce (wz old new j)]
   refine Has.leave (a:=opn (spU old new j) j) ih.keep.keep.keep ?_
   show old.getD j 0=_
   simpa [unl] using h
theorem EJ (old new:List Nat):ip old.length (old,new)=spU old new old.length:=rfl
theorem ED (n:Nat) {new:List Nat}:(dR n old new).1<=gj (ip old.length (old,new)):=by
 have h:=zN n old new old.length
 refine jQ (k:=(opn (spU old new old.length) old.length,false)) ?_ (by rw [EJ];unfold eU;rw [Nat.sub_zero];exact h)
 cases opn (spU old new old.length) old.length <;> decide
noncomputable def jb (l:List (Nat×Nat)):List Nat:=l.flatMap fun q=>List.range' q.1 q.2
theorem AY (l:List (Nat×Nat)) (j:Nat):jb (iS l j)=jb l++[j]:=by
 cases e:opn l j with
 | true=>
  obtain ⟨a,c,n,e1,e2,e3⟩:=iK e
  rw [e3,e1]
  unfold jb
  rw [List.flatMap_append,List.flatMap_append,List.append_assoc]
  simp only [List.flatMap_cons,List.flatMap_nil,List.append_nil]
  rw [List.range'_concat,Nat.one_mul,e2]
 | false=>
  rw [iQ e]
  unfold jb
  rw [List.flatMap_append];rfl
theorem sJ:∀ (cs:List Nat) (l:List (Nat×Nat)),jb (cs.foldl iS l)=jb l++cs
 | [],l=>by simp
 | c::cs,l=>by rw [List.foldl_cons,sJ cs,AY,List.append_assoc];rfl
theorem Ah (wd:Nat) (p:List Nat×List Nat):jb (ip wd p)=qC wd p.1 p.2:=by unfold ip;rw [sJ];rfl
noncomputable def kJ (new row:List Nat) (q:Nat×Nat):List Nat:=row.take q.1++(new.drop q.1).take q.2++row.drop (q.1+q.2)
theorem rZ {new row:List Nat} {q:Nat×Nat} (h:new.length=row.length) (hq:q.1+q.2<=row.length):(kJ new row q).length=row.length:=by
 unfold kJ;simp;omega
theorem Bn {new row:List Nat} {q:Nat×Nat} (h:new.length=row.length) (hq:q.1+q.2<=row.length) (i:Nat):(kJ new row q)[i]?=if q.1<=i/\i<q.1+q.2 then new[i]? else row[i]?:=by
 unfold kJ
 have l1:(row.take q.1).length=q.1:=by rw [List.length_take];omega
 have l2:((new.drop q.1).take q.2).length=q.2:=by rw [List.length_take,List.length_drop];omega
 by_cases a:i<q.1
 ·rw [if_neg (by omega),List.append_assoc,List.getElem?_append_left (by omega),List.getElem?_take,if_pos a]
 ·by_cases b:i<q.1+q.2
  ·rw [if_pos ⟨by omega,b⟩,List.getElem?_append_left (by rw [List.length_append];omega),List.getElem?_append_right (by omega),l1,List.getElem?_take,if_pos (by omega),List.getElem?_drop]
   congr 1;omega
  ·rw [if_neg (by omega),List.getElem?_append_right (by rw [List.length_append];omega),List.length_append,l1,l2,List.getElem?_drop]
   congr 1;omega
theorem oH {new:List Nat}:∀ (l:List (Nat×Nat)) {row:List Nat},new.length=row.length->(∀ q∈l,q.1+q.2<=row.length)->(l.foldl (kJ new) row).length=row.length/\∀ i,(l.foldl (kJ new) row)[i]?=if i∈jb l then new[i]? else row[i]?
 | [],row,_,_=>⟨rfl,fun i=>by rw [if_neg (by simp [jb])];rfl⟩
 | q::l,row,h,hq=>by
  have pl:=rZ h (hq q (List.mem_cons_self ..))
  obtain ⟨i1,i2⟩:=oH (new:=new) l (row:=kJ new row q) (by omega) (fun z hz=>by rw [pl];exact hq z (List.mem_cons_of_mem _ hz))
  refine ⟨by rw [List.foldl_cons,i1,pl],fun i=>?_⟩
  rw [List.foldl_cons,i2,Bn h (hq q (List.mem_cons_self ..))]
  have e:i∈jb (q::l) ↔ (q.1<=i/\i<q.1+q.2)\/i∈jb l:=by
   unfold jb;rw [List.flatMap_cons,List.mem_append,List.mem_range'_1]
  by_cases a:i∈jb l
  ·rw [if_pos a,if_pos (e.2 (.inr a))]
  ·rw [if_neg a]
   by_cases b:q.1<=i/\i<q.1+q.2
   ·rw [if_pos b,if_pos (e.2 (.inl b))]
   ·rw [if_neg b,if_neg (fun z=>by rcases e.1 z with z|z;exact b z;exact a z)]
theorem Ag {p:List Nat×List Nat} (h:p.1.length=wd):∀ q∈ip wd p,1<=q.2/\q.1+q.2<=wd:=by
 subst h;exact (wz p.1 p.2 p.1.length).e
theorem nZ {new:List Nat} (h1:old.length=wd) (h2:new.length=wd):(ip wd (old,new)).foldl (kJ new) old=new:=by
 obtain ⟨e1,e2⟩:=oH (new:=new) (ip wd (old,new)) (row:=old) (by omega) (fun q hq=>by have:=Ag h1 q hq;omega)
 refine List.ext_getElem? fun i=>?_
 rw [e2,Ah]
 by_cases a:i∈qC wd old new
 ·rw [if_pos a]
 ·rw [if_neg a]
  by_cases b:i<wd
  ·unfold qC at a
   rw [List.mem_filter] at a
   have c:old.getD i 0=new.getD i 0:=by
    have : ¬ ((!(old.getD i 0==new.getD i 0))=true):=fun z=>a ⟨List.mem_range.2 b,z⟩
    simpa using this
   rw [iJ (by omega),iJ (by omega),c]
  ·rw [List.getElem?_eq_none (by omega),List.getElem?_eq_none (by omega)]
abbrev Tr:=Nat×Nat×Nat
noncomputable def prL (rows g:List (List Nat)):List (List Nat×List Nat):=List.zipWith Prod.mk rows g
theorem vN:∀ rows g:List (List Nat),prs (rows.map .str) (g.map .str)=prL rows g
 | [],_=>rfl
 | _::_,[]=>rfl
 | x::rows,y::g=>congrArg ((x,y)::·) (vN rows g)
noncomputable def dz (wd:Nat) (rows g:List (List Nat)):List Tr:=spP wd 0 (prL rows g)
noncomputable def wb (g:List (List Nat)) (t:Tr):List Od:=[.go t.1 t.2.1,.say (((g.getD t.1 []).drop t.2.1).take t.2.2)]
def ke (l:List Tr):Nat:=(l.map fun t=>2+t.2.2).sum
theorem AN (a b:List Tr):ke (a++b)=ke a+ke b:=by simp [ke]
theorem AE (k:Nat) (l:List (Nat×Nat)):ke (l.map (emb k))=gj l:=by unfold ke gj;rw [List.map_map];rfl
theorem wk (wd:Nat):∀ (ps:List (List Nat×List Nat)) (k:Nat),ke (spP wd k ps)=(ps.map fun p=>gj (ip wd p)).sum
 | [],_=>rfl
 | p::ps,k=>by rw [spP,AN,AE,wk wd ps];simp
theorem ww (f:Nat->List Nat->List Nat->Nat) (wd:Nat) (H:∀ k x y,x.length=wd->f k x y<=gj (ip wd (x,y))):∀ (rows g:List (List Nat)) (j:Nat),(∀ x∈rows,x.length=wd)->g.length=rows.length->((List.range rows.length).map fun i=>f (j+i) (rows.getD i []) (g.getD i [])).sum<=((prL rows g).map fun p=>gj (ip wd p)).sum
 | [],_,_,_,_=>Nat.zero_le _
 | x::rows,[],_,_,h=>by simp at h
 | x::rows,y::g,j,hx,h=>by
  have ih:=ww f wd H rows g (j+1) (fun z hz=>hx z (List.mem_cons_of_mem _ hz)) (by simpa using h)
  have h1:=H j x y (hx x (List.mem_cons_self ..))
  rw [List.length_cons,List.range_succ_eq_map,List.map_cons,List.map_map,List.sum_cons]
  show f (j+0) x y+((List.range rows.length).map fun i=>f (j+(i+1)) (rows.getD i []) (g.getD i [])).sum<=gj (ip wd (x,y))+((prL rows g).map fun p=>gj (ip wd p)).sum
  have e:((List.range rows.length).map fun i=>f (j+(i+1)) (rows.getD i []) (g.getD i []))=((List.range rows.length).map fun i=>f (j+1+i) (rows.getD i []) (g.getD i [])):=List.map_congr_left fun i _=>by rw [show j+(i+1)=j+1+i by omega]
  rw [e,Nat.add_zero];omega
theorem sR (f:Nat->List Od):∀ l:List Nat,((l.flatMap f).map bQ).sum=(l.map fun i=>((f i).map bQ).sum).sum
 | []=>rfl
 | i::l=>by rw [List.flatMap_cons,List.map_append,List.sum_append,sR f l];simp
theorem yY (e:Nat->Nat) (r:Nat):∀ n,((List.range n).map fun i=>if i=r then 0 else e i).sum+(if r<n then e r else 0)=((List.range n).map e).sum
 | 0=>rfl
 | n+1=>by
  have ih:=yY e r n
  rw [List.range_succ,List.map_append,List.map_append,List.sum_append,List.sum_append]
  simp only [List.map_cons,List.map_nil,List.sum_cons,List.sum_nil]
  by_cases a:n=r
  ·subst a;rw [if_pos rfl,if_pos (by omega)];rw [if_neg (by omega)] at ih;omega
  ·rw [if_neg a]
   by_cases b:r<n
   ·rw [if_pos (by omega)];rw [if_pos b] at ih;omega
   ·rw [if_neg (by omega)];rw [if_neg b] at ih;omega
theorem BE {s:St} {g:List (List Nat)} (h:GS s) (hg:GL s g):iW s g<=ke (dz s.1 s.2.1 g):=by
 have hm:=h.m
 have a1:=(nD (gD s g) []).2
 have a2:((gD s g).map bQ).sum<=((List.range s.2.1.length).map fun i=>(dR i (s.2.1.getD i []) (g.getD i [])).1).sum:=by
  unfold gD
  rw [List.map_append,List.sum_append,sR,<- List.range_eq_range']
  have r1:=zI (n:=s.2.2.1) (c:=s.2.2.2) (by have:=h.r;omega) (by rw [(bL h h.r).1];exact h.w2) (by rw [(bL h h.r).1,(er hg h.r).1]) (er hg h.r).2 (by rw [(bL h h.r).1];exact h.c)
  have r2:(uf s.2.2.1 (s.2.1.getD s.2.2.1 []) (g.getD s.2.2.1 []) s.2.2.2).1<=(dR s.2.2.1 (s.2.1.getD s.2.2.1 []) (g.getD s.2.2.1 [])).1:=jm _ _ _ (by simp)
  have r3:((hZ s g).map bQ).sum=(uf s.2.2.1 (s.2.1.getD s.2.2.1 []) (g.getD s.2.2.1 []) s.2.2.2).1:=r1.2.symm
  have r4:=yY (fun i=>(dR i (s.2.1.getD i []) (g.getD i [])).1) s.2.2.1 s.2.1.length
  rw [if_pos h.r] at r4
  have r5:((List.range s.2.1.length).map fun i=>((vz s g i).map bQ).sum)=((List.range s.2.1.length).map fun i=>if i=s.2.2.1 then 0 else (dR i (s.2.1.getD i []) (g.getD i [])).1):=List.map_congr_left fun i hi=>by
   have hi:=List.mem_range.1 hi
   unfold vz
   split
   ·rfl
   ·exact (lS (n:=i) (by omega) (by rw [(bL h hi).1];exact h.w2) (by rw [(bL h hi).1,(er hg hi).1]) (er hg hi).2).2.symm
  rw [r3,r5];omega
 have a3:=ww (fun k x y=>(dR k x y).1) s.1 (fun k x y hx=>by rw [<- hx];exact ED k) s.2.1 g 0 (fun x hx=>(h.l x hx).1) hg.n
 simp only [Nat.zero_add] at a3
 unfold dz iW
 rw [wk]
 unfold shO
 simp only [List.map_nil,List.sum_nil,Nat.zero_add] at a1
 omega
theorem E8 {rows g:List (List Nat)} {c n r0 c0:Nat} (hk:k<rows.length) (hc:c+n<=wd) (hg:(g.getD k []).length=wd):rn (some (wd,rows,r0,c0)) (wb g (k,c,n))=some (wd,rows.set k (kJ (g.getD k []) (rows.getD k []) (c,n)),k,c+n):=by
 have l1:(((g.getD k []).drop c).take n).length=n:=by rw [List.length_take,List.length_drop];omega
 show (dQ (wd,rows,r0,c0) (.go k c)).bind (fun s=>dQ s (.say (((g.getD k []).drop c).take n)))=_
 have e1:dQ (wd,rows,r0,c0) (.go k c)=some (wd,rows,k,c):=if_neg (by omega)
 rw [e1]
 show dQ (wd,rows,k,c) (.say _)=_
 unfold dQ
 dsimp only
 rw [l1,if_neg (by omega)];rfl
theorem D8 {wd:Nat} {g:List (List Nat)} {k:Nat} (hg:(g.getD k []).length=wd):∀ (l:List (Nat×Nat)) {rows:List (List Nat)} {r0 c0:Nat},k<rows.length->(rows.getD k []).length=wd->(∀ q∈l,q.1+q.2<=wd)->
  ∃ r1 c1,rn (some (wd,rows,r0,c0)) ((l.map (emb k)).flatMap (wb g))=some (wd,rows.set k (l.foldl (kJ (g.getD k [])) (rows.getD k [])),r1,c1)
 | [],rows,r0,c0,hk,_,_=>⟨r0,c0,by
   show some _=_
   congr 3
   show rows=rows.set k (rows.getD k [])
   rw [List.getD_eq_getElem?_getD,List.getElem?_eq_getElem hk]
   exact (List.set_getElem_self hk).symm⟩
 | q::l,rows,r0,c0,hk,hw,hq=>by
  have pl:=rZ (new:=g.getD k []) (row:=rows.getD k []) (q:=q) (by omega) (by rw [hw];exact hq q (List.mem_cons_self ..))
  have gk:(rows.set k (kJ (g.getD k []) (rows.getD k []) q)).getD k []=kJ (g.getD k []) (rows.getD k []) q:=by
   rw [List.getD_eq_getElem?_getD,List.getElem?_set_self hk];rfl
  obtain ⟨r1,c1,ih⟩:=D8 hg l (rows:=rows.set k (kJ (g.getD k []) (rows.getD k []) q)) (r0:=k) (c0:=q.1+q.2) (by rw [List.length_set];exact hk) (by rw [gk,pl,hw]) (fun z hz=>hq z (List.mem_cons_of_mem _ hz))
  refine ⟨r1,c1,?_⟩
  rw [List.map_cons,List.flatMap_cons,D5]
  show rn (rn (some (wd,rows,r0,c0)) (wb g (k,q.1,q.2))) _=_
  rw [E8 hk (hq q (List.mem_cons_self ..)) hg,ih,gk,List.set_set,List.foldl_cons]
theorem zo {wd:Nat} {g:List (List Nat)}:∀ (ps:List (List Nat×List Nat)) (k:Nat) {rows:List (List Nat)} {r0 c0:Nat},rows.drop k=ps.map (·.1)->g.drop k=ps.map (·.2)->(∀ p∈ps,p.1.length=wd/\p.2.length=wd)->
  ∃ r1 c1,rn (some (wd,rows,r0,c0)) ((spP wd k ps).flatMap (wb g))=some (wd,rows.take k++ps.map (·.2),r1,c1)
 | [],k,rows,r0,c0,h1,_,_=>⟨r0,c0,by
   show some _=_
   congr 3
   show rows=rows.take k++[]
   have:=List.take_append_drop k rows
   rw [h1] at this;exact this.symm⟩
 | p::ps,k,rows,r0,c0,h1,h2,hw=>by
  have hk:k<rows.length:=by have:=congrArg List.length h1;simp at this;omega
  have hk2:k<g.length:=by have:=congrArg List.length h2;simp at this;omega
  rw [List.drop_eq_getElem_cons hk,List.map_cons] at h1
  rw [List.drop_eq_getElem_cons hk2,List.map_cons] at h2
  injection h1 with a1 a2
  injection h2 with b1 b2
  have a0:rows.getD k []=p.1:=by rw [List.getD_eq_getElem?_getD,List.getElem?_eq_getElem hk,<- a1];rfl
  have b0:g.getD k []=p.2:=by rw [List.getD_eq_getElem?_getD,List.getElem?_eq_getElem hk2,<- b1];rfl
  obtain ⟨w1,w2⟩:=hw p (List.mem_cons_self ..)
  obtain ⟨r1,c1,e1⟩:=D8 (wd:=wd) (g:=g) (k:=k) (by rw [b0];exact w2) (ip wd p) (rows:=rows) (r0:=r0) (c0:=c0) hk (by rw [a0];exact w1) (fun q hq=>(Ag w1 q hq).2)
  rw [a0,b0,nZ w1 w2] at e1
  obtain ⟨r2,c2,ih⟩:=zo (wd:=wd) (g:=g) ps (k+1) (rows:=rows.set k p.2) (r0:=r1) (c0:=c1) (by rw [List.drop_set_of_lt (by omega)];exact a2) b2 (fun z hz=>hw z (List.mem_cons_of_mem _ hz))
  refine ⟨r2,c2,?_⟩
  rw [spP,List.flatMap_append,D5,e1,ih,List.take_add_one,List.getElem?_set_self hk,List.take_set_of_le (by omega),List.append_assoc];rfl
noncomputable def Ln (a b:Tr):Prop:=¬ (a.1=b.1/\b.2.1<=a.2.1+a.2.2)/\1<=a.2.2
noncomputable def DB:List Tr->Prop
 | a::b::l=>Ln a b/\DB (b::l)
 | _=>True
theorem xq:∀ {l m:List Tr},DB l->DB m->(∀ a∈l.getLast?,∀ b∈m.head?,Ln a b)->DB (l++m)
 | [],m,_,h,_=>h
 | [a],[],_,_,_=>trivial
 | [a],b::m,_,h,e=>⟨e a rfl b rfl,h⟩
 | a::b::l,m,h1,h2,e=>⟨h1.1,xq (l:=b::l) h1.2 h2 fun x hx y hy=>e x (by rw [List.getLast?_cons_cons];exact hx) y hy⟩
noncomputable def EH:List (Nat×Nat)->Prop
 | a::b::l=>a.1+a.2<b.1/\EH (b::l)
 | _=>True
theorem nc:∀ {l:List (Nat×Nat)} {q:Nat×Nat},EH l->(∀ a∈l.getLast?,a.1+a.2<q.1)->EH (l++[q])
 | [],_,_,_=>trivial
 | [a],q,_,e=>⟨e a rfl,trivial⟩
 | a::b::l,q,h,e=>⟨h.1,nc (l:=b::l) h.2 fun x hx=>e x (by rw [List.getLast?_cons_cons];exact hx)⟩
theorem rW:∀ {l:List (Nat×Nat)} {q:Nat×Nat},EH (l++[q])->EH l/\∀ a∈l.getLast?,a.1+a.2<q.1
 | [],_,_=>⟨trivial,fun _ h=>by cases h⟩
 | [a],q,h=>⟨trivial,fun x hx=>by cases hx;exact h.1⟩
 | a::b::l,q,h=>by
  obtain ⟨h1,h2⟩:=rW (l:=b::l) (q:=q) h.2
  exact ⟨⟨h.1,h1⟩,fun x hx=>h2 x (by rw [List.getLast?_cons_cons] at hx;exact hx)⟩
theorem AM (old new:List Nat):∀ j,EH (spU old new j)
 | 0=>trivial
 | j+1=>by
  have ih:=AM old new j
  have ok:=(wz old new j).e
  rw [qS]
  split
  ·cases e:opn (spU old new j) j with
   | true=>
    obtain ⟨a,c,n,e1,e2,e3⟩:=iK e
    rw [e3]
    rw [e1] at ih
    obtain ⟨i1,i2⟩:=rW ih
    exact nc i1 i2
   | false=>
    rw [iQ e]
    refine nc ih fun x hx=>?_
    have h1:=(ok x (List.mem_of_getLast? hx)).2
    have h2:x.1+x.2≠j:=fun z=>by
     unfold opn at e
     rw [hx] at e
     simp [z] at e
    dsimp only;omega
  ·exact ih
theorem xf (k:Nat):∀ {l:List (Nat×Nat)},EH l->(∀ q∈l,1<=q.2)->DB (l.map (emb k))
 | [],_,_=>trivial
 | [_],_,_=>trivial
 | a::b::l,h,e=>⟨⟨fun z=>by have:=h.1;have:=z.2;simp only [emb] at this;omega,e a (List.mem_cons_self ..)⟩,xf k (l:=b::l) h.2 fun q hq=>e q (List.mem_cons_of_mem _ hq)⟩
theorem DL (wd:Nat):∀ (ps:List (List Nat×List Nat)) (k:Nat) (t:Tr),t∈spP wd k ps->k<=t.1
 | [],_,_,h=>by cases h
 | p::ps,k,t,h=>by
  rw [spP] at h
  rcases List.mem_append.1 h with h|h
  ·obtain ⟨q,_,rfl⟩:=List.mem_map.1 h;exact Nat.le_refl _
  ·have:=DL wd ps (k+1) t h;omega
theorem zA (wd:Nat):∀ (ps:List (List Nat×List Nat)) (k:Nat),(∀ p∈ps,p.1.length=wd)->∀ t∈spP wd k ps,t.1<k+ps.length/\1<=t.2.2/\t.2.1+t.2.2<=wd
 | [],_,_,_,h=>by cases h
 | p::ps,k,hp,t,h=>by
  rw [spP] at h
  rcases List.mem_append.1 h with h|h
  ·obtain ⟨q,hq,rfl⟩:=List.mem_map.1 h
   have:=Ag (hp p (List.mem_cons_self ..)) q hq
   simp only [emb,List.length_cons];omega
  ·have:=zA wd ps (k+1) (fun z hz=>hp z (List.mem_cons_of_mem _ hz)) t h
   simp only [List.length_cons];omega
theorem tm (wd:Nat):∀ (ps:List (List Nat×List Nat)) (k:Nat),(∀ p∈ps,p.1.length=wd)->DB (spP wd k ps)
 | [],_,_=>trivial
 | p::ps,k,hp=>by
  have h0:=hp p (List.mem_cons_self ..)
  rw [spP]
  refine xq (xf k (by subst h0;exact AM p.1 p.2 _) fun q hq=>(Ag h0 q hq).1) (tm wd ps (k+1) fun z hz=>hp z (List.mem_cons_of_mem _ hz)) fun a ha b hb=>?_
  obtain ⟨q,hq,rfl⟩:=List.mem_map.1 (List.mem_of_getLast? ha)
  have h1:=DL wd ps (k+1) b (List.mem_of_head? hb)
  exact ⟨fun z=>by have:=z.1;simp only [emb] at this;omega,(Ag h0 q hq).1⟩
noncomputable def eT (t:Tr):List (Nat×Nat):=(List.range' t.2.1 t.2.2).map fun c=>(t.1,c)
theorem wg (k:Nat):∀ l:List (Nat×Nat),(l.map (emb k)).flatMap eT=(jb l).map fun c=>(k,c)
 | []=>rfl
 | q::l=>by
  rw [List.map_cons,List.flatMap_cons,wg k l]
  unfold jb
  rw [List.flatMap_cons,List.map_append];rfl
theorem kH (wd:Nat):∀ (ps:List (List Nat×List Nat)) (k:Nat),(spP wd k ps).flatMap eT=fR wd k ps
 | [],_=>rfl
 | p::ps,k=>by rw [spP,fR,List.flatMap_append,wg,Ah,kH wd ps]
theorem mZ (wd:Nat):∀ (rows:List (List Nat)) (k:Nat),spP wd k (prL rows rows)=[]
 | [],_=>rfl
 | x::rows,k=>by
  show spP wd k ((x,x)::prL rows rows)=[]
  have e:ip wd (x,x)=[]:=by
   unfold ip qC
   rw [List.filter_eq_nil_iff.2 fun c _=>by simp];rfl
  rw [spP,e,mZ wd rows];rfl
theorem wH (wd:Nat):∀ (rows g:List (List Nat)) (k:Nat),g.length=rows.length->(∀ x∈rows,x.length=wd)->(∀ x∈g,x.length=wd)->spP wd k (prL rows g)=[]->rows=g
 | [],[],_,_,_,_,_=>rfl
 | [],_::_,_,h,_,_,_=>by simp at h
 | _::_,[],_,h,_,_,_=>by simp at h
 | x::rows,y::g,k,h,h1,h2,e=>by
  have e:(ip wd (x,y)).map (emb k)++spP wd (k+1) (prL rows g)=[]:=e
  obtain ⟨e1,e2⟩:=List.append_eq_nil_iff.1 e
  have e1:=List.map_eq_nil_iff.1 e1
  have p:=nZ (wd:=wd) (old:=x) (new:=y) (h1 x (List.mem_cons_self ..)) (h2 y (List.mem_cons_self ..))
  rw [e1] at p
  have p:x=y:=p
  rw [p,wH wd rows g (k+1) (by simpa using h) (fun z hz=>h1 z (List.mem_cons_of_mem _ hz)) (fun z hz=>h2 z (List.mem_cons_of_mem _ hz)) e2]
theorem qA {n:Nat} {old new:List Nat} (b:Nat):∀ (k j:Nat) (m:Mp),All (fun q p=>p.2=[]->q.2=false/\∀ i,b<=i->i<j->old.getD i 0=new.getD i 0) m->All (fun q p=>p.2=[]->q.2=false/\∀ i,b<=i->i<j+k->old.getD i 0=new.getD i 0) ((List.range' j k).foldl (xS n old new) m)
 | 0,j,m,h=>h
 | k+1,j,m,h=>by
  rw [List.range'_succ,List.foldl_cons,show j+(k+1)=j+1+k by omega]
  refine qA b k (j+1) _ ?_
  have mv:∀ {m:Mp} {a c:Ky} {o:Od},All (fun q p=>p.2=[]->q.2=false/\∀ i,b<=i->i<j->old.getD i 0=new.getD i 0) m->All (fun q p=>p.2=[]->q.2=false/\∀ i,b<=i->i<j->old.getD i 0=new.getD i 0) (move m a c o):=by
   intro m a c o h
   unfold move
   split
   ·exact All.offer h fun z=>by simp [ky] at z
   ·exact h
  refine pU (mv (mv (mv h))) (fun q p _ _ z=>by simp [ky] at z) fun q p hp e z=>?_
  obtain ⟨h1,h2⟩:=hp z
  refine ⟨h1,fun i hb hi=>?_⟩
  by_cases hj:i=j
  ·subst hj;rw [h1] at e;exact e
  ·exact h2 i hb (by omega)
theorem we {x y:List Nat} (h:x.length=y.length) (e:∀ i,i<x.length->x.getD i 0=y.getD i 0):x=y:=by
 refine List.ext_getElem? fun i=>?_
 by_cases b:i<x.length
 ·rw [iJ b,iJ (by omega),e i b]
 ·rw [List.getElem?_eq_none (by omega),List.getElem?_eq_none (by omega)]
theorem wN {n:Nat} {new:List Nat} (hl:new.length=old.length) (hw:old.length<=40) (h:(dR n old new).2=[]):old=new:=by
 have a:=qA (n:=n) (old:=old) (new:=new) 0 old.length 0 (m0 (false,false)) (fun z hz=>by rw [List.mem_singleton.1 hz];exact fun _=>⟨rfl,fun i _ hi=>by omega⟩)
 have g:=(qH gd0 n (b:=0) hl (Nat.zero_le _) (by omega)).2.all
 have c:=da (ks:=allK) (P:=fun p=>p.2=[]->∀ i,0<=i->i<0+old.length->old.getD i 0=new.getD i 0) (m:=eU n old new 0 (m0 (false,false))) (fun z hz e=>(a z (by unfold eU at hz;rwa [Nat.sub_zero] at hz) e).2) g
 exact we hl.symm fun i hi=>c h i (Nat.zero_le _) (by omega)
theorem zC {n c:Nat} {new:List Nat} (hl:new.length=old.length) (hw:old.length<=40) (hc:c<=old.length) (h:(eK n old new c).2=[]):old=new:=by
 obtain ⟨h1,h2⟩:=List.append_eq_nil_iff.1 h
 have a:=qA (n:=n) (old:=old) (new:=new) c (old.length - c) c (m0 (true,false)) (fun z hz=>by rw [List.mem_singleton.1 hz];exact fun _=>⟨rfl,fun i _ hi=>by omega⟩)
 have g:=(qH gd1 n (b:=c) hl hc (by omega)).2.all
 have r:=da (ks:=allK) (P:=fun p=>p.2=[]->∀ i,c<=i->i<c+(old.length - c)->old.getD i 0=new.getD i 0) (m:=eU n old new c (m0 (true,false))) (fun z hz e=>(a z hz e).2) g
 have l1:(old.take c).length=c:=by rw [List.length_take];omega
 have l2:(new.take c).length=c:=by rw [List.length_take];omega
 have a2:=qA (n:=n) (old:=old.take c) (new:=new.take c) 0 c 0 (m0 (false,false)) (fun z hz=>by rw [List.mem_singleton.1 hz];exact fun _=>⟨rfl,fun i _ hi=>by omega⟩)
 have g2:=(qH gd0 n (b:=0) (old:=old.take c) (new:=new.take c) (by omega) (Nat.zero_le _) (by omega)).2.two
 have r2:=da (ks:=twoK) (P:=fun p=>p.2=[]->∀ i,0<=i->i<0+c->(old.take c).getD i 0=(new.take c).getD i 0) (m:=eU n (old.take c) (new.take c) 0 (m0 (false,false))) (fun z hz e=>(a2 z (by unfold eU at hz;rwa [Nat.sub_zero,l1] at hz) e).2) g2
 refine we hl.symm fun i hi=>?_
 by_cases b:i<c
 ·have:=r2 h2 i (Nat.zero_le _) (by omega)
  simp only [List.getD_eq_getElem?_getD,List.getElem?_take,if_pos b] at this ⊢
  exact this
 ·exact r h1 i (by omega) (by omega)
theorem Gm (a:List Od) (o:Od):eA a o≠[]:=by
 unfold eA
 split
 ·exact fun z=>by cases z
 ·split <;> simp
theorem Eh:∀ {os a:List Od},os.foldl eA a=[]->os=[]/\a=[]
 | [],a,h=>⟨rfl,h⟩
 | o::os,a,h=>absurd (Eh (os:=os) h).2 (Gm a o)
theorem Ll:∀ {os:List Od},(∀ o∈os,okO o=true)->(os.map bQ).sum=0->os=[]
 | [],_,_=>rfl
 | o::os,h,e=>by
  have:=wu (h o (List.mem_cons_self ..))
  simp only [List.map_cons,List.sum_cons] at e;omega
theorem A2 {s:St} {g:List (List Nat)} (h:GS s) (hg:GL s g) (e:iW s g=0):s.2.1=g:=by
 have e1:=(Eh (Ll (IX fun o ho=>(mf h hg o ho).1) e)).1
 obtain ⟨e2,e3⟩:=List.append_eq_nil_iff.1 e1
 have hr:s.2.1.getD s.2.2.1 []=g.getD s.2.2.1 []:=by
  have hl:(g.getD s.2.2.1 []).length=(s.2.1.getD s.2.2.1 []).length:=by rw [(bL h h.r).1,(er hg h.r).1]
  have hw:(s.2.1.getD s.2.2.1 []).length<=40:=by rw [(bL h h.r).1];exact h.w2
  rcases List.mem_cons.1 (iP [dR s.2.2.1 (s.2.1.getD s.2.2.1 []) (g.getD s.2.2.1 [])] (eK s.2.2.1 (s.2.1.getD s.2.2.1 []) (g.getD s.2.2.1 []) s.2.2.2)) with z|z
  ·unfold hZ uf at e2;rw [z] at e2
   exact zC hl hw (by rw [(bL h h.r).1];exact h.c) e2
  ·unfold hZ uf at e2;rw [List.mem_singleton.1 z] at e2
   exact wN hl hw e2
 refine List.ext_getElem? fun i=>?_
 by_cases hi:i<s.2.1.length
 ·have q:s.2.1.getD i []=g.getD i []:=by
   by_cases z:i=s.2.2.1
   ·rw [z];exact hr
   ·have:=List.flatMap_eq_nil_iff.1 e3 i (by rw [List.mem_range'_1];omega)
    unfold vz at this
    rw [if_neg z] at this
    exact wN (by rw [(bL h hi).1,(er hg hi).1]) (by rw [(bL h hi).1];exact h.w2) this
  have hi2:i<g.length:=by rw [hg.n];exact hi
  rw [List.getD_eq_getElem?_getD,List.getD_eq_getElem?_getD,List.getElem?_eq_getElem hi,List.getElem?_eq_getElem hi2] at q
  rw [List.getElem?_eq_getElem hi,List.getElem?_eq_getElem hi2]
  exact congrArg some q
 ·rw [List.getElem?_eq_none (by omega),List.getElem?_eq_none (by rw [hg.n];omega)]
end Q
namespace Q76
open L2 Q
open PySem (sizeLine Addr)
noncomputable def Dx (aE aD:List D->R D) (bu aF:List D->R D) (ai aK:List D->R D) (bC ay:List D->R D):Ev->O:=(eF 1 (aM 2 aE (aa (rvz 0) (aa (ciz 10) nlz))))
noncomputable def Eg (aE aD:List D->R D) (bu aF:List D->R D) (ai aK:List D->R D) (bC ay:List D->R D):Ev->O:=(eF 2 (aM 3 aD (aa (rvz 0) (aa (ciz 500) (aa (rvz 1) nlz)))))
noncomputable def DI (aE aD:List D->R D) (bu aF:List D->R D) (ai aK:List D->R D) (bC ay:List D->R D):Ev->O:=(AK 3 4 5 (aM 2 bu (aa (rvz 1) (aa (rvz 2) nlz))) (vJ nlz) (vJ nlz))
noncomputable def DG (aE aD:List D->R D) (bu aF:List D->R D) (ai aK:List D->R D) (bC ay:List D->R D):Ev->O:=(eF 6 (aM 2 aF (aa (rvz 1) (aa (rvz 2) nlz))))
noncomputable def xx (aE aD:List D->R D) (bu aF:List D->R D) (ai aK:List D->R D) (bC ay:List D->R D):Ev->O:=(aC (JR 4 (cu (gm (aH cr (aa (rvz 9) nlz)) [7,8] (fun _=>R.ok true) (aH mkT (aa (rvz 1) (aa (g2 bR (rvz 2) (rvz 0)) nlz)))))) (aC (EX 5 (aH mkT (aa (csz [103,111]) (aa (rvz 7) (aa (rvz 8) nlz))))) (aC (EX 5 (aH mkT (aa (csz [115,97,121]) (aa (gSl (g2 ixD (rvz 6) (rvz 7)) (iy (rvz 8)) (iy (g2 bR (rvz 8) (rvz 9)))) nlz)))) oNx)))
noncomputable def IC (aE aD:List D->R D) (bu aF:List D->R D) (ai aK:List D->R D) (bC ay:List D->R D):Ev->O:=(sK (vT [7,8,9]) (aH ce (rvz 3)) (xx aE aD bu aF ai aK bC ay))
noncomputable def Ec (aE aD:List D->R D) (bu aF:List D->R D) (ai aK:List D->R D) (bC ay:List D->R D):Ev->O:=(oIf (gB2 neF (rvz 4) (aM 2 ai (aa (rvz 1) (aa (rvz 2) nlz)))) (aC (cw (fun _=>R.ok (D.bl false))) oNx) oNx)
noncomputable def xk (aE aD:List D->R D) (bu aF:List D->R D) (ai aK:List D->R D) (bC ay:List D->R D):Ev->O:=(aC (oIf (ud (BN (gB2 eqF (g2 ixD (rvz 10) (ciz 0)) (g2 ixD (rvz 11) (ciz 0))) (gB2 geD (g2 bR (g2 ixD (rvz 10) (ciz 1)) (g2 ixD (rvz 10) (ciz 2))) (g2 ixD (rvz 11) (ciz 1)))) (gB2 ltD (g2 ixD (rvz 10) (ciz 2)) (ciz 1))) (aC (cw (fun _=>R.ok (D.bl false))) oNx) oNx) oNx)
noncomputable def DH (aE aD:List D->R D) (bu aF:List D->R D) (ai aK:List D->R D) (bC ay:List D->R D):Ev->O:=(sK (vT [10,11]) (aH Fq (aa (rvz 3) (aa (gSl (rvz 3) (iy (ciz 1)) (fun _=>R.ok none)) nlz))) (xk aE aD bu aF ai aK bC ay))
noncomputable def zj (aE aD:List D->R D) (bu aF:List D->R D) (ai aK:List D->R D) (bC ay:List D->R D):Ev->O:=(eF 12 (aM 2 aK (aa (rvz 1) (aa (rvz 5) nlz))))
noncomputable def Ax (aE aD:List D->R D) (bu aF:List D->R D) (ai aK:List D->R D) (bC ay:List D->R D):Ev->O:=(oIf (ud (gB2 neF (g2 ixD (rvz 12) (ciz 1)) (rvz 6)) (gB2 ltD (aM 1 bC (aa (rvz 5) nlz)) (aM 2 ay (aa (rvz 1) (aa (rvz 2) nlz))))) (aC (cw (fun _=>R.ok (D.bl false))) oNx) oNx)
noncomputable def AI (aE aD:List D->R D) (bu aF:List D->R D) (ai aK:List D->R D) (bC ay:List D->R D):Ev->O:=(cw (oX (g2 eqF (aM 2 bu (aa (rvz 12) (aa (rvz 2) nlz))) (cu (vJ nlz))) (g2 eqF (g2 eqF (rvz 3) (cu (vJ nlz))) (g2 eqF (aM 2 ay (aa (rvz 1) (aa (rvz 2) nlz))) (ciz 0)))))
noncomputable def rl (aE aD:List D->R D) (bu aF:List D->R D) (ai aK:List D->R D) (bC ay:List D->R D):Ev->O:=(aC (Dx aE aD bu aF ai aK bC ay) (aC (Eg aE aD bu aF ai aK bC ay) (aC (DI aE aD bu aF ai aK bC ay) (aC (DG aE aD bu aF ai aK bC ay) (aC (IC aE aD bu aF ai aK bC ay) (BB 4 (aC (Ec aE aD bu aF ai aK bC ay) (aC (DH aE aD bu aF ai aK bC ay) (BB 5 (aC (zj aE aD bu aF ai aK bC ay) (aC (Ax aE aD bu aF ai aK bC ay) (aC (AI aE aD bu aF ai aK bC ay) oNx))))))))))))
section
variable {F1 F2 F3 F4 F5 F6 F7 F8:List D->R D} {x0 x1 x2 x3 x7 x8 x9 x10 x11 x12:Option Sl}
theorem Fe (k c n:Nat):((List.range n).map fun (i:Nat)=>D.tup [.int (k:Int),.int ((c:Int)+(i:Int))])=(eT (k,c,n)).map spD:=by
 unfold eT
 rw [List.range'_eq_map_range,List.map_map,List.map_map]
 rfl
theorem K2 {c n:Nat}:eO (fun _=>R.ok true) (aH mkT (aa (rvz 1) (aa (g2 bR (rvz 2) (rvz 0)) nlz))) ((List.range n).map fun (i:Nat)=>D.int (i:Int)) [none,vI k,vI c]=.ok ((eT (k,c,n)).map spD):=by
 have:=eB (gt:=fun _=>R.ok true) (ge:=aH mkT (aa (rvz 1) (aa (g2 bR (rvz 2) (rvz 0)) nlz))) (fun d=>match d with|.int i=>.tup [.int (k:Int),.int ((c:Int)+i)]|d=>d) [vI k,vI c] ((List.range n).map fun (i:Nat)=>D.int (i:Int)) none (fun d hd=>by
  obtain ⟨i,_,rfl⟩:=List.mem_map.1 hd
  exact ⟨rfl,rfl⟩)
 rw [this,List.map_map,<- Fe];rfl
theorem Hl {A B:List D} {g:List (List Nat)} {c n:Nat} (hk:k<g.length) (hg:(g.getD k []).length=wd) (hw:wd<=40) (hc:c+n<=wd) (hA:A.length<=900) (hB:B.length<=900) :
  xx F1 F2 F3 F4 F5 F6 F7 F8 [x0,x1,x2,x3,some (.own A),some (.own B),vD (.tup (g.map .str)),vI k,vI c,vI n,x10,x11,x12] =
   .nx [x0,x1,x2,x3,some (.own (A++(eT (k,c,n)).map spD)),some (.own (B++(wb g (k,c,n)).map oD)),vD (.tup (g.map .str)),vI k,vI c,vI n,x10,x11,x12]:=by
 have r1:cr [.int (n:Int)]=.ok ((List.range n).map fun (i:Nat)=>D.int (i:Int)):=qN (by omega)
 have c1:=K2 (k:=k) (c:=c) (n:=n)
 have l1:((eT (k,c,n)).map spD).length<=sizeLine:=by
  have h3:1000<=sizeLine:=by decide
  unfold eT;rw [List.length_map,List.length_map,List.length_range'];show n<=_;omega
 have l2:A.length+((eT (k,c,n)).map spD).length<=sizeLine:=by
  have h3:1000<=sizeLine:=by decide
  unfold eT;rw [List.length_map,List.length_map,List.length_range'];show _+n<=_;omega
 have l3:B.length<sizeLine:=Nat.lt_of_le_of_lt hB (by decide)
 have l4:(B++[D.tup [.str [103,111],.int (k:Int),.int (c:Int)]]).length<sizeLine:=by
  have h3:1000<=sizeLine:=by decide
  simp only [List.length_append,List.length_cons,List.length_nil];omega
 have i1:gW [7,8] [x0,x1,x2,x3,some (.own A),some (.own B),vD (.tup (g.map .str)),vI k,vI c,vI n,x10,x11,x12]=[none,vI k,vI c]:=rfl
 have k1:mkT [.str [103,111],.int (k:Int),.int (c:Int)]=.ok (.tup [.str [103,111],.int (k:Int),.int (c:Int)]):=rfl
 have k2:∀ x:D,mkT [.str [115,97,121],x]=.ok (.tup [.str [115,97,121],x]):=fun _=>rfl
 have q1:ixD (.tup (g.map .str)) (.int (k:Int))=some (.str (g.getD k [])):=by
  refine JN ?_
  rw [List.getElem?_map,List.getElem?_eq_getElem hk,List.getD_eq_getElem?_getD,List.getElem?_eq_getElem hk];rfl
 have a1:bR (.int (c:Int)) (.int (n:Int))=some (.int ((c+n:Nat):Int)):=rfl
 have s1:D7 (some (c:Int)) (some ((c+n:Nat):Int)) (.str (g.getD k []))=some (.str (((g.getD k []).drop c).take n)):=by
  rw [Jt,EO]
 have e1:(wb g (k,c,n)).map oD=[D.tup [.str [103,111],.int (k:Int),.int (c:Int)],.tup [.str [115,97,121],.str (((g.getD k []).drop c).take n)]]:=rfl
 rw [e1]
 unfold xx
 clear e1 hk hg hc hA hB
 generalize (eT (k,c,n)).map spD=Z at *
 generalize g.getD k []=x at *
 have o4:∀ (a b c d:Option Sl) (e:List D) (ρ:Ev),ownAt (a::b::c::d::some (.own e)::ρ) 4=.ok e:=fun _ _ _ _ _ _=>rfl
 have o5:∀ (a b c d e:Option Sl) (f:List D) (ρ:Ev),ownAt (a::b::c::d::e::some (.own f)::ρ) 5=.ok f:=fun _ _ _ _ _ _ _=>rfl
 walk_at "run"
 rw [List.append_assoc];rfl
theorem D0 {g:List (List Nat)} {wd:Nat} (hg:∀ k,k<g.length->(g.getD k []).length=wd) (hw:wd<=40):∀ (ts:List Tr) (A B:List D) (x7 x8 x9:Option Sl),(∀ t∈ts,t.1<g.length/\1<=t.2.2/\t.2.1+t.2.2<=wd)->A.length+(ts.flatMap eT).length<=900->B.length+2 * ts.length<=900->
  ∃ y7 y8 y9,cH (vT [7,8,9]) (xx F1 F2 F3 F4 F5 F6 F7 F8) (ts.map snD) [x0,x1,x2,x3,some (.own A),some (.own B),vD (.tup (g.map .str)),x7,x8,x9,x10,x11,x12] =
   .nx [x0,x1,x2,x3,some (.own (A++(ts.flatMap eT).map spD)),some (.own (B++(ts.flatMap (wb g)).map oD)),vD (.tup (g.map .str)),y7,y8,y9,x10,x11,x12]
 | [],A,B,x7,x8,x9,_,_,_=>⟨x7,x8,x9,by simp [cH]⟩
 | (k,c,n)::ts,A,B,x7,x8,x9,h,hA,hB=>by
  have h1:=h _ (List.mem_cons_self ..)
  simp only [List.flatMap_cons,List.length_append,List.length_cons] at hA hB
  have b:=Hl (F1:=F1) (F2:=F2) (F3:=F3) (F4:=F4) (F5:=F5) (F6:=F6) (F7:=F7) (F8:=F8) (x0:=x0) (x1:=x1) (x2:=x2) (x3:=x3) (x10:=x10) (x11:=x11) (x12:=x12) (A:=A) (B:=B) (g:=g) (k:=k) (c:=c) (n:=n) (wd:=wd) h1.1 (hg k h1.1) hw h1.2.2 (by omega) (by omega)
  obtain ⟨y7,y8,y9,ih⟩:=D0 hg hw ts (A++(eT (k,c,n)).map spD) (B++(wb g (k,c,n)).map oD) (vI k) (vI c) (vI n) (fun t ht=>h t (List.mem_cons_of_mem _ ht)) (by rw [List.length_append,List.length_map];omega) (by rw [List.length_append,List.length_map];show _+2+_<=_;omega)
  refine ⟨y7,y8,y9,?_⟩
  rw [List.map_cons]
  refine (eR rfl b).trans (ih.trans ?_)
  rw [List.flatMap_cons,List.flatMap_cons,List.map_append,List.map_append,List.append_assoc,List.append_assoc]
theorem Km {x4 x5 x6:Option Sl} {a b:Tr} (h:Ln a b):xk F1 F2 F3 F4 F5 F6 F7 F8 [x0,x1,x2,x3,x4,x5,x6,x7,x8,x9,vD (snD a),vD (snD b),x12]=.nx [x0,x1,x2,x3,x4,x5,x6,x7,x8,x9,vD (snD a),vD (snD b),x12]:=by
 obtain ⟨k,c,n⟩:=a
 obtain ⟨k',c',n'⟩:=b
 obtain ⟨h1,h2⟩:=h
 have q0:ixD (snD (k,c,n)) (.int 0)=some (.int (k:Int)):=rfl
 have q1:ixD (snD (k,c,n)) (.int 1)=some (.int (c:Int)):=rfl
 have q2:ixD (snD (k,c,n)) (.int 2)=some (.int (n:Int)):=rfl
 have r0:ixD (snD (k',c',n')) (.int 0)=some (.int (k':Int)):=rfl
 have r1:ixD (snD (k',c',n')) (.int 1)=some (.int (c':Int)):=rfl
 have t1:((n:Int)<1)=False:=by
  have:1<=n:=h2
  exact eq_false (by omega)
 unfold xk
 generalize snD (k,c,n)=U at *
 generalize snD (k',c',n')=W at *
 by_cases z:k=k'
 ·have z':((c':Int)<=(c:Int)+(n:Int))=False:=eq_false fun q=>h1 ⟨z,by show c'<=c+n;omega⟩
  have z1:((k:Int)==(k':Int))=true:=by rw [z];exact beq_self_eq_true _
  clear h1 h2 z
  walk_at "run"
 ·have z1:((k:Int)==(k':Int))=false:=by
   rw [beq_eq_false_iff_ne];omega
  clear h1 h2 z
  walk_at "run"
theorem AX {x4 x5 x6:Option Sl}:∀ (ts:List Tr) (x10 x11:Option Sl),DB ts->∃ y10 y11,cH (vT [10,11]) (xk F1 F2 F3 F4 F5 F6 F7 F8) (List.zipWith (fun x y=>D.tup [x,y]) (ts.map snD) ((ts.map snD).drop 1)) [x0,x1,x2,x3,x4,x5,x6,x7,x8,x9,x10,x11,x12]=.nx [x0,x1,x2,x3,x4,x5,x6,x7,x8,x9,y10,y11,x12]
 | [],x10,x11,_=>⟨x10,x11,rfl⟩
 | [_],x10,x11,_=>⟨x10,x11,rfl⟩
 | a::b::ts,x10,x11,h=>by
  obtain ⟨y10,y11,ih⟩:=AX (b::ts) (vD (snD a)) (vD (snD b)) h.2
  exact ⟨y10,y11,(eR rfl (Km h.1)).trans ih⟩
end
section
variable {s:Q.St} {xs:List (List Nat)} {f:Bool}
theorem IZ (h:GS s) (hx:bi s.2.1.length s.1 xs=true):yX [sD s,.lst f (xs.map .str)]=.ok (.lst false ((dz s.1 s.2.1 (bt s.2.1.length s.1 xs)).map snD)):=by
 show (match L2.dZ (xs.map .str) with
  | some ys=>if screen (sD s)=true/\bi (s.2.1.map D.str).length (s.1:Int).toNat ys=true then R.ok (D.lst false ((spP (s.1:Int).toNat 0 (prs (s.2.1.map .str) (cX (s.2.1.map D.str).length (s.1:Int).toNat ys))).map snD)) else .no
  | none=>.no)=_
 rw [el]
 dsimp only
 rw [if_pos ⟨h.screen,by rw [List.length_map];exact hx⟩,List.length_map,fT,vN];rfl
theorem Ke (h:GS s) (hx:bi s.2.1.length s.1 xs=true):usF [sD s,.lst f (xs.map .str)]=.ok (.lst false (((dz s.1 s.2.1 (bt s.2.1.length s.1 xs)).flatMap eT).map spD)):=by
 show (match L2.dZ (xs.map .str) with
  | some ys=>if screen (sD s)=true/\bi (s.2.1.map D.str).length (s.1:Int).toNat ys=true then R.ok (D.lst false (cK (s.1:Int).toNat (s.2.1.map .str) 0 (cX (s.2.1.map D.str).length (s.1:Int).toNat ys))) else .no
  | none=>.no)=_
 rw [el]
 dsimp only
 rw [if_pos ⟨h.screen,by rw [List.length_map];exact hx⟩,List.length_map,fT,qW _ _ _ _ (by rw [List.length_map,List.length_map];show 0+(bt s.2.1.length s.1 xs).length<=_;rw [(qX hx).n];omega),List.drop_zero,vN]
 unfold dz
 rw [kH];rfl
end
theorem tV {g:List (List Nat)} {wd:Nat} (hg:∀ k,k<g.length->(g.getD k []).length=wd):∀ ts:List Tr,(∀ t∈ts,t.1<g.length/\1<=t.2.2/\t.2.1+t.2.2<=wd)->((ts.flatMap (wb g)).map bQ).sum=ke ts
 | [],_=>rfl
 | (k,c,n)::ts,h=>by
  have h1:=h _ (List.mem_cons_self ..)
  have ih:=tV hg ts fun t ht=>h t (List.mem_cons_of_mem _ ht)
  have e:(((g.getD k []).drop c).take n).length=n:=by
   rw [List.length_take,List.length_drop,hg k h1.1];have:c+n<=wd:=h1.2.2;omega
  have e2:ke ((k,c,n)::ts)=(2+n)+ke ts:=by unfold ke;rw [List.map_cons,List.sum_cons]
  rw [List.flatMap_cons,List.map_append,List.sum_append,ih,e2]
  show bQ (.go k c)+(bQ (.say _)+0)+_=_
  simp only [bQ]
  rw [e];omega
theorem Gi {g:List (List Nat)} (hg:∀ k,k<g.length->(g.getD k []).length=wd/\bh (g.getD k [])=true) (hw:wd<=40) (hm:g.length<=12) {ts:List Tr} (h:∀ t∈ts,t.1<g.length/\1<=t.2.2/\t.2.1+t.2.2<=wd):∀ o∈ts.flatMap (wb g),okO o=true:=by
 intro o ho
 obtain ⟨⟨k,c,n⟩,ht,ho⟩:=List.mem_flatMap.1 ho
 have h1:=h _ ht
 dsimp only at h1
 rcases List.mem_cons.1 ho with rfl|ho
 ·simp only [okO,Bool.and_eq_true,decide_eq_true_eq];omega
 ·rw [List.mem_singleton.1 ho]
  have e:(((g.getD k []).drop c).take n).length=n:=by
   rw [List.length_take,List.length_drop,(hg k h1.1).1];omega
  have p:bh (((g.getD k []).drop c).take n)=true:=jL (hg k h1.1).2 fun x hx=>List.mem_of_mem_drop (List.mem_of_mem_take hx)
  simp only [okO,Bool.and_eq_true,decide_eq_true_eq,e]
  exact ⟨p,by omega,by omega⟩
theorem C9 (ts:List Tr) (h:∀ t∈ts,1<=t.2.2):ts.length<=(ts.flatMap eT).length:=by
 induction ts with
 | nil=>exact Nat.le_refl _
 | cons t ts ih=>
  have h1:=h _ (List.mem_cons_self ..)
  have:=ih fun t ht=>h t (List.mem_cons_of_mem _ ht)
  rw [List.flatMap_cons,List.length_append,List.length_cons]
  unfold eT
  rw [List.length_map,List.length_range']
  unfold eT at this
  omega
theorem Iz (ts:List (Nat×Nat)):cl 10 (.lst false (ts.map spD))=true:=by
 show (ts.map spD).all (cl 9)=true
 rw [List.all_eq_true]
 intro x hx
 obtain ⟨t,_,rfl⟩:=List.mem_map.1 hx
 rfl
theorem J2 (ts:List Tr):eqF (.lst false (ts.map snD)) (.lst false [])=some (.bl ts.isEmpty):=by
 cases ts <;> rfl
theorem KW {Cs Co Cr:Addr} (ns:List Int) (fz:Bool) :
  aq (rl ya yW yX zR usF (adG Cs Co Cr) (coG Co) (pL Co) (ar 13 [.lst fz (ns.map .int)]))=.ok (.bl true):=by
 obtain ⟨s,h,e0,e1,e2⟩:=Hd ns 10
 have w2:=(qa ns 10).2.1
 have m2:=(qx ns 10).2.1
 have hx:=FW (ns:=ns) (a:=500) h
 have hb:4 * s.1 * (s.2.1.length+1)<=900:=Nat.le_trans (Nat.mul_le_mul (Nat.mul_le_mul_left 4 (show s.1<=8 by omega)) (show s.2.1.length+1<=5 by omega)) (by decide)
 have a1:ya [.lst fz (ns.map .int),.int 10]=.ok (sD s):=by rw [<- e0];exact Br (a:=10)
 have a2:yW [.lst fz (ns.map .int),.int 500,sD s]=_:=GR (a:=500) h
 generalize rq ns 500 s.1 (s.2.1.map .str)=xs at *
 have hg:=qX hx
 have a3:=IZ (f:=false) h hx
 have a4:=I9 h hx false
 have a5:=Ke (f:=false) h hx
 have a6:=LH (C:=Co) h hx hb false
 have hgl:∀ k,k<(bt s.2.1.length s.1 xs).length->((bt s.2.1.length s.1 xs).getD k []).length=s.1/\bh ((bt s.2.1.length s.1 xs).getD k [])=true:=fun k hk=>er hg (by rw [<- hg.n];exact hk)
 have rs:∀ x∈s.2.1,x.length=s.1:=fun x hx=>(h.l x hx).1
 have gr:∀ x∈bt s.2.1.length s.1 xs,x.length=s.1:=fun x hx=>by
  obtain ⟨i,hi,rfl⟩:=List.getElem_of_mem hx
  have:=(hgl i hi).1
  rwa [List.getD_eq_getElem?_getD,List.getElem?_eq_getElem hi] at this
 have pl:∀ p∈prL s.2.1 (bt s.2.1.length s.1 xs),p.1.length=s.1/\p.2.length=s.1:=fun p hp=>by
  have:=List.of_mem_zip (show (p.1,p.2)∈s.2.1.zip (bt s.2.1.length s.1 xs) from hp)
  exact ⟨rs _ this.1,gr _ this.2⟩
 have pn:(prL s.2.1 (bt s.2.1.length s.1 xs)).length=s.2.1.length:=by
  unfold prL;rw [List.length_zipWith,hg.n,Nat.min_self]
 have mem:∀ t∈dz s.1 s.2.1 (bt s.2.1.length s.1 xs),t.1<(bt s.2.1.length s.1 xs).length/\1<=t.2.2/\t.2.1+t.2.2<=s.1:=fun t ht=>by
  have:=zA s.1 _ 0 (fun p hp=>(pl p hp).1) t ht
  rw [hg.n];rw [pn] at this;omega
 have sl:((dz s.1 s.2.1 (bt s.2.1.length s.1 xs)).flatMap eT).length<=32:=by
  unfold dz
  rw [kH]
  refine Nat.le_trans (fY _ _ _) ?_
  rw [pn]
  exact Nat.mul_le_mul (show s.1<=8 by omega) (show s.2.1.length<=4 by omega)
 have tl:=C9 _ fun t ht=>(mem t ht).2.1
 have gp:DB (dz s.1 s.2.1 (bt s.2.1.length s.1 xs)):=tm s.1 _ 0 fun p hp=>(pl p hp).1
 have cst:=tV (fun k hk=>(hgl k hk).1) _ mem
 have lsp:=BE h hg
 have oo:=Gi hgl (show s.1<=40 by omega) (show _<=12 by rw [hg.n];omega) mem
 have ol:((dz s.1 s.2.1 (bt s.2.1.length s.1 xs)).flatMap (wb (bt s.2.1.length s.1 xs))).length<=1000:=by
  have:∀ ts:List Tr,(ts.flatMap (wb (bt s.2.1.length s.1 xs))).length=2 * ts.length:=fun ts=>by
   induction ts with
   | nil=>rfl
   | cons t ts ih=>rw [List.flatMap_cons,List.length_append,ih,List.length_cons];show 2+_=_;omega
  rw [this];omega
 obtain ⟨r1,c1,run⟩:=zo (wd:=s.1) (g:=bt s.2.1.length s.1 xs) (prL s.2.1 (bt s.2.1.length s.1 xs)) 0 (rows:=s.2.1) (r0:=s.2.2.1) (c0:=s.2.2.2) (by
   show s.2.1=_
   exact (List.map_fst_zip (Nat.le_of_eq hg.n.symm)).symm) (by
   show bt _ _ _=_
   exact (List.map_snd_zip (Nat.le_of_eq hg.n)).symm) pl
 rw [List.take_zero,List.nil_append,show (prL s.2.1 (bt s.2.1.length s.1 xs)).map (·.2)=bt s.2.1.length s.1 xs from List.map_snd_zip (Nat.le_of_eq hg.n)] at run
 change rn (some s) ((dz s.1 s.2.1 (bt s.2.1.length s.1 xs)).flatMap _)=_ at run
 have hm:=H9 _ h oo run
 have a7:=Ms (Cs:=Cs) (Co:=Co) (Cr:=Cr) (f:=false) h oo run
 have a8:=Mm (C:=Co) (f:=false) oo ol
 rw [cst] at a8
 have a9:yX [sD (s.1,bt s.2.1.length s.1 xs,r1,c1),.lst false (xs.map .str)]=.ok (.lst false []):=by
  have:=IZ (f:=false) (xs:=xs) hm (by show bi (bt s.2.1.length s.1 xs).length s.1 xs=true;rw [hg.n];exact hx)
  rw [this]
  show R.ok (D.lst false ((dz s.1 (bt s.2.1.length s.1 xs) (bt (bt s.2.1.length s.1 xs).length s.1 xs)).map snD))=_
  rw [hg.n]
  unfold dz
  rw [mZ];rfl
 have iff:(dz s.1 s.2.1 (bt s.2.1.length s.1 xs)).isEmpty=((iW s (bt s.2.1.length s.1 xs):Int)==0):=by
  cases e:(dz s.1 s.2.1 (bt s.2.1.length s.1 xs)).isEmpty with
  | true=>
   have z:=wH s.1 s.2.1 _ 0 hg.n rs gr (List.isEmpty_iff.1 e)
   rw [<- z,vX h];rfl
  | false=>
   symm
   rw [beq_eq_false_iff_ne]
   intro z
   have z1:=A2 h hg (by omega)
   have:dz s.1 s.2.1 (bt s.2.1.length s.1 xs)=[]:=by rw [<- z1];exact mZ ..
   rw [this] at e;cases e
 have b1:=As (Iz ((dz s.1 s.2.1 (bt s.2.1.length s.1 xs)).flatMap eT))
 have b2:((ke (dz s.1 s.2.1 (bt s.2.1.length s.1 xs)):Int)<(iW s (bt s.2.1.length s.1 xs):Int))=False:=eq_false (by omega)
 have b3:=J2 (dz s.1 s.2.1 (bt s.2.1.length s.1 xs))
 have b4:eqF (.lst false []) (.lst false [])=some (.bl true):=rfl
 have b5:neF (.tup ((bt s.2.1.length s.1 xs).map .str)) (.tup ((bt s.2.1.length s.1 xs).map .str))=some (.bl false):=by
  refine As ?_
  show List.all _ (cl 9)=true
  rw [List.all_eq_true]
  intro x hx
  obtain ⟨t,_,rfl⟩:=List.mem_map.1 hx
  rfl
 have b6:ixD (sD (s.1,bt s.2.1.length s.1 xs,r1,c1)) (.int 1)=some (.tup ((bt s.2.1.length s.1 xs).map .str)):=rfl
 obtain ⟨y7,y8,y9,lp⟩:=D0 (F1:=ya) (F2:=yW) (F3:=yX) (F4:=zR) (F5:=usF) (F6:=adG Cs Co Cr) (F7:=coG Co) (F8:=pL Co) (x0:=vL fz ns) (x1:=vD (sD s)) (x2:=vD (.lst false (xs.map .str))) (x3:=vD (.lst false ((dz s.1 s.2.1 (bt s.2.1.length s.1 xs)).map snD))) (x10:=none) (x11:=none) (x12:=none) (g:=bt s.2.1.length s.1 xs) (wd:=s.1) (fun k hk=>(hgl k hk).1) (by omega) (dz s.1 s.2.1 (bt s.2.1.length s.1 xs)) [] [] none none none mem (by rw [List.length_nil];omega) (by rw [List.length_nil];omega)
 obtain ⟨y10,y11,lq⟩:=AX (F1:=ya) (F2:=yW) (F3:=yX) (F4:=zR) (F5:=usF) (F6:=adG Cs Co Cr) (F7:=coG Co) (F8:=pL Co) (x0:=vL fz ns) (x1:=vD (sD s)) (x2:=vD (.lst false (xs.map .str))) (x3:=vD (.lst false ((dz s.1 s.2.1 (bt s.2.1.length s.1 xs)).map snD))) (x4:=vD (.lst false (((dz s.1 s.2.1 (bt s.2.1.length s.1 xs)).flatMap eT).map spD))) (x5:=some (.own (((dz s.1 s.2.1 (bt s.2.1.length s.1 xs)).flatMap (wb (bt s.2.1.length s.1 xs))).map oD))) (x6:=vD (.tup ((bt s.2.1.length s.1 xs).map .str))) (x7:=y7) (x8:=y8) (x9:=y9) (x12:=none) (dz s.1 s.2.1 (bt s.2.1.length s.1 xs)) none none gp
 rw [List.nil_append,List.nil_append] at lp
 clear gp cst lsp oo ol run hm mem sl tl pn pl gr rs hgl hg hx hb w2 m2 e0 e1 e2
 generalize dz s.1 s.2.1 (bt s.2.1.length s.1 xs)=ts at *
 generalize iW s (bt s.2.1.length s.1 xs)=lc at *
 generalize bt s.2.1.length s.1 xs=g at *
 generalize sD (s.1,g,r1,c1)=S1 at *
 generalize sD s=S0 at *
 generalize (ts.flatMap eT).map spD=SP at *
 generalize (ts.flatMap (wb g)).map oD=OD at *
 generalize ke ts=c3 at *
 have z1:ar 13 [.lst fz (ns.map .int)]=[vL fz ns,none,none,none,none,none,none,none,none,none,none,none,none]:=rfl
 rw [z1]
 unfold rl
 refine (congrArg aq (eJ (ρ1:=[vL fz ns,vD S0,none,none,none,none,none,none,none,none,none,none,none]) ?_)).trans ?_
 ·unfold Dx;clear lp lq;walk_at "run"
 refine (congrArg aq (eJ (ρ1:=[vL fz ns,vD S0,vD (.lst false (xs.map .str)),none,none,none,none,none,none,none,none,none,none]) ?_)).trans ?_
 ·unfold Eg;clear lp lq;walk_at "run"
 refine (congrArg aq (eJ (ρ1:=[vL fz ns,vD S0,vD (.lst false (xs.map .str)),vD (.lst false (ts.map snD)),some (.own []),some (.own []),none,none,none,none,none,none,none]) ?_)).trans ?_
 ·unfold DI AK
  clear lp lq;walk_at "run"
  rfl
 refine (congrArg aq (eJ (ρ1:=[vL fz ns,vD S0,vD (.lst false (xs.map .str)),vD (.lst false (ts.map snD)),some (.own []),some (.own []),vD (.tup (g.map .str)),none,none,none,none,none,none]) ?_)).trans ?_
 ·unfold DG;clear lp lq;walk_at "run"
 refine (congrArg aq (eJ (ρ1:=[vL fz ns,vD S0,vD (.lst false (xs.map .str)),vD (.lst false (ts.map snD)),some (.own SP),some (.own OD),vD (.tup (g.map .str)),y7,y8,y9,none,none,none]) ?_)).trans ?_
 ·exact lp
 show aq (aC _ _ [vL fz ns,vD S0,vD (.lst false (xs.map .str)),vD (.lst false (ts.map snD)),vD (.lst false SP),some (.own OD),vD (.tup (g.map .str)),y7,y8,y9,none,none,none])=_
 refine (congrArg aq (eJ (ρ1:=[vL fz ns,vD S0,vD (.lst false (xs.map .str)),vD (.lst false (ts.map snD)),vD (.lst false SP),some (.own OD),vD (.tup (g.map .str)),y7,y8,y9,none,none,none]) ?_)).trans ?_
 ·unfold Ec;clear lp lq;walk_at "run"
 refine (congrArg aq (eJ (ρ1:=[vL fz ns,vD S0,vD (.lst false (xs.map .str)),vD (.lst false (ts.map snD)),vD (.lst false SP),some (.own OD),vD (.tup (g.map .str)),y7,y8,y9,y10,y11,none]) ?_)).trans ?_
 ·refine Eq.trans ?_ lq
  unfold DH
  have q:jT (ts.map snD) (some (1:Int)) none=(ts.map snD).drop 1:=vj _ 1
  have q2:∀ a b:List D,Fq [.lst false a,.lst false b]=.ok (List.zipWith (fun x y=>.tup [x,y]) a b):=fun _ _=>rfl
  clear lp lq;walk_at "run"
 show aq (aC _ _ [vL fz ns,vD S0,vD (.lst false (xs.map .str)),vD (.lst false (ts.map snD)),vD (.lst false SP),vD (.lst false OD),vD (.tup (g.map .str)),y7,y8,y9,y10,y11,none])=_
 refine (congrArg aq (eJ (ρ1:=[vL fz ns,vD S0,vD (.lst false (xs.map .str)),vD (.lst false (ts.map snD)),vD (.lst false SP),vD (.lst false OD),vD (.tup (g.map .str)),y7,y8,y9,y10,y11,vD S1]) ?_)).trans ?_
 ·unfold zj;clear lp lq;walk_at "run"
 refine (congrArg aq (eJ (ρ1:=[vL fz ns,vD S0,vD (.lst false (xs.map .str)),vD (.lst false (ts.map snD)),vD (.lst false SP),vD (.lst false OD),vD (.tup (g.map .str)),y7,y8,y9,y10,y11,vD S1]) ?_)).trans ?_
 ·unfold Ax;clear lp lq;walk_at "run"
 have q0:eqF (.int (lc:Int)) (.int 0)=some (.bl ((lc:Int)==0)):=rfl
 have q3:eqF (.bl ((lc:Int)==0)) (.bl ((lc:Int)==0))=some (.bl true):=C2 rfl
 have q4:(0<=sizeLine)=True:=eq_true (Nat.zero_le _)
 rw [iff] at b3
 unfold AI
 clear lp lq iff
 walk_at "run"
end Q76
namespace Q
open PySem PySem.Spec PyProof.Rows L2
theorem xy (h:us.length=1):∃ a,us=[a]:=by
 match us,h with
 | [a],_=>exact ⟨a,rfl⟩
theorem rD (h:us.length=2):∃ a b,us=[a,b]:=by
 match us,h with
 | [a,b],_=>exact ⟨a,b,rfl⟩
theorem A5 (h:us.length=3):∃ a b c,us=[a,b,c]:=by
 match us,h with
 | [a,b,c],_=>exact ⟨a,b,c,rfl⟩
theorem JI (h:us.length=4):∃ a b c d,us=[a,b,c,d]:=by
 match us,h with
 | [a,b,c,d],_=>exact ⟨a,b,c,d,rfl⟩
theorem MN (h:us.length=5):∃ a b c d e,us=[a,b,c,d,e]:=by
 match us,h with
 | [a,b,c,d,e],_=>exact ⟨a,b,c,d,e,rfl⟩
theorem HM {K:PySem.W.Frag} {hp:Heap} {mg:Str->Option Value} {bm:List Value} {nid:String} (kin:K.In hp) (gl:hp.Ns mainGlobals mg) (e1:PySem.W.nsIn K mainGlobals x=some (some (.ref C))) (e2:PySem.W.excIn K C bm nid=true):OwnCls x C bm nid mg hp:=by
 constructor
 ·exact PySem.W.mg_of kin gl e1
 ·unfold PySem.W.excIn at e2
  split at e2
  ·rename_i dct kl sls look
   split at e2
   ·rename_i C0 more s0 s1 s2 s3 nw s5 hmro hsls
    simp only [Bool.and_eq_true,beq_iff_eq,Bool.not_eq_true'] at e2
    obtain ⟨⟨⟨⟨⟨eC,en⟩,edel⟩,etail⟩,ens⟩,einit⟩:=e2
    obtain ⟨f1,f2,f3,f4,f5,f6,f7,f8,f9,f10,f11⟩:=kl
    dsimp only at hmro edel ens einit
    have es:sls = #[s0,s1,s2,s3,some (.builtin nw),s5]:=by
     obtain ⟨ls⟩:=sls
     simp only at hsls
     rw [hsls]
    subst hmro edel es eC en
    exact ⟨more,f4,f1,f5,f2,f6,f7,f8,f9,f10,dct,s0,s1,s2,s3,s5,_,kin _ _ look,.of_isNs (PySem.W.isNs_of_in kin ens),PySem.W.nsMap_none_of_in kin ens einit,PySem.W.tail_of_in kin etail⟩
   ·cases e2
  ·cases e2
theorem Ad {K:PySem.W.Frag} {hp:Heap} {mg:Str->Option Value} (kin:K.In hp) (gl:hp.Ns mainGlobals mg) (e1:PySem.W.nsIn K mainGlobals x=some (some (.ref C))) (e2:PySem.W.excIn K C [.type "ValueError",.type "Exception",.type "BaseException",.type "object"] "ValueError.__new__"=true):Ref x C mg hp:=
 ⟨_,_,_,_,HM kin gl e1 e2,PySem.F.excBase_ValueError⟩
theorem rX {K:PySem.W.Frag} {G:Hp}:∀ ns:List Int,Reps K G (ns.map V.int) (ns.map D.int)
 | []=>.nil
 | i::ns=>.cons (.int i) (rX ns)
noncomputable def BI:List D->R D
 | [.lst _ ds]=>match lM ds with
  | some _=>.ok (.bl true)
  | none=>.no
 | _=>.no
theorem Hf (h:∀ (ns:List Int) (fz:Bool),g [.lst fz (ns.map .int)]=.ok (.bl true)):∀ ds:List D,ds.length=1->BI ds=.no\/g ds=BI ds:=by
 intro ds hl
 match ds,hl with
 | [d],_=>
  cases d <;> first|exact Or.inl rfl|skip
  rename_i fz ds hl
  cases hi:lM ds with
  | none=>exact Or.inl (by simp only [BI,hi])
  | some ns=>
   have e:=qO hi
   subst e
   refine Or.inr ?_
   rw [h ns fz]
   simp only [BI,hi]
theorem M0 {l:PySem.W.OpenLaw} {q:Program} {XP:(Str->Option Value)->Heap->Prop} {YP:World->Heap->Prop} {d:DefRec} {K:Params->PySem.W.Frag} {L:Nat} (hL:Room L callerA) (hn:l.most=some 63) (hdf:d.params.defaults=[])
 (hY:∀ (w:World) (h:Heap),YP w h->(K w.params).In h)
 (F:∀ (w:World) (mg:Str->Option Value) (fa:Addr) (h:Heap),(K w.params).In h->h.Ns mainGlobals mg->mg d.name=some (.ref fa)->
 ∃ fd:FuncData,(∀ (s:Shared) (u:Value),BindsTo s fd ⟨[u],[]⟩ [("_law_script",u)])/\∀ base:Heap,(K w.params).In base->base.Ns mainGlobals mg->FnF l.prog w (K w.params) mg base L fa fd ["_law_script"] BI) :
  PySem.W.WalkO q loose XP YP l.row.toRowW d [] (fun f vs=>PySem.call f vs):=
 L2.zu (n:=63) (k:=L) (x:="_law_script") (CX:=fun w=>CXo l.prog w) (sp:=fun w vs H Q E=>vs.length=1/\spF (K w.params) BI vs H Q E) hn (by decide) hdf hL hY F
  (fun w H a ns hl hO hS=>⟨rfl,H,[.lst true (ns.map .int)],.refl _,.cons (.fls hS (rX ns)) .nil,by
   have e:BI [.lst true (ns.map .int)]=.ok (.bl true):=by simp only [BI,oy]
   rw [e]
   exact fun v G' H' u r=>r.bl_inv⟩)
  fun w H s e s' z=>by obtain ⟨a,C,H',_,_,z⟩:=z;exact z
theorem ba {K:PySem.W.Frag} {mg:Str->Option Value} {oc:Value} {an:Option Addr} {kV doc pm ct:Value} (X:K.In h) (G:h.Ns mainGlobals mg) (a:PySem.W.nsIn K mainGlobals x=some (some (.ref f)))
 (l:K.lookup f=some ⟨oc,od,.func (PySem.W.fnOf x x (jl st) (cI st) (ao st) .none kV doc pm an cdv ct),osl⟩) (c:PySem.W.codeIn K cdv x=true) (k:PySem.W.keepIn K (.ref f)=true):∃ f fd,Fun K x x st f fd/\mg x=some (.ref f):=
 ⟨f,_,Hz l c k,PySem.W.mg_of X G a⟩
section
variable {P:Program} {w:World} {K:PySem.W.Frag} {mg:Str->Option Value} {base:Heap} {C:Addr} {x qual:Str} {st:Stmt} {f:Addr} {fd:FuncData} {ps:List Str} {k n:Nat} {G:MF}
theorem Bv {n:Nat} (F:Fun K x x st f fd) (hm:mg x=some (.ref f)) (ok:FnM P w K mg base k f fd ps C G)
 (h:∀ (kV doc pm:Value) (an:Option Addr) (cdv ct:Value) (us:List Value),us.length=ps.length->bindArgs (PySem.W.fnOf x x (jl st) (cI st) (ao st) .none kV doc pm an cdv ct) ⟨us,[]⟩=pure (ps.zip us)) (e:ps.length=n+1):CalleeM P w K mg base C x k n G:=
 ⟨f,fd,ps,ok,hm,F.kp,F.binds h,e⟩
end
theorem kA {K:PySem.W.Frag} {its:Array Value} {n:Nat} (l:K.lookup a=some ⟨.type "tuple",od,.seq its n,osl⟩) (hz:its.size<=sizeLine) (v:Vals vs its.toList) (r:∀ G,Reps K G vs ds):lQ K a (.tup ds):=BQ l rfl rfl hz v r
theorem oO {K:PySem.W.Frag} {mg:Str->Option Value} (X:K.In h) (G:h.Ns mainGlobals mg) (e:PySem.W.nsIn K mainGlobals x=some (some (.ref a))) (k:lQ K a (.tup ds)):∃ a,mg x=some (.ref a)/\lQ K a (.tup ds):=
 ⟨a,PySem.W.mg_of X G e,k⟩
end Q
namespace G76
open PySem PySem.Spec PyProof.Rows L2 Q Q76
local macro_rules | `(tactic| walk_at "s") => `(tactic| exact ⟨rfl,rfl,rfl,by decide +kernel,rfl,by decide +kernel,by decide +kernel⟩)
local macro_rules | `(tactic| walk_at "1") => `(tactic| (intro _ _ _ _ _ _ us hl;obtain ⟨a,z⟩:=xy hl;subst z;rfl))
local macro_rules | `(tactic| walk_at "2") => `(tactic| (intro _ _ _ _ _ _ us hl;obtain ⟨a,b,z⟩:=rD hl;subst z;rfl))
local macro_rules | `(tactic| walk_at "3") => `(tactic| (intro _ _ _ _ _ _ us hl;obtain ⟨a,b,c,z⟩:=A5 hl;subst z;rfl))
local macro_rules | `(tactic| walk_at "4") => `(tactic| (intro _ _ _ _ _ _ us hl;obtain ⟨a,b,c,d,z⟩:=JI hl;subst z;rfl))
local macro_rules | `(tactic| walk_at "5") => `(tactic| (intro _ _ _ _ _ _ us hl;obtain ⟨a,b,c,d,e,z⟩:=MN hl;subst z;rfl))
noncomputable abbrev top (i:Nat):Stmt:=PySem.Challenge.pw_screenlines_k76_whole_spans.main.body.getD i (.Pass ⟨0,0,0,0⟩)
noncomputable abbrev FU (K:PySem.W.Frag) (n:Str) (i:Nat):=Fun K n n (top i)
section
variable {P:Program} {w:World} {K:PySem.W.Frag} {mg:Str->Option Value} {base:Heap}
theorem vk:FnScope ["_law_script","_law_k"] ["_law_script","_law_k"] (ao (top 61)):=by walk_at "s"
theorem uV (br:mg "len"=none) (Fn:FU K "_law_cell" 61 f fd):FnF P w K mg base 1 f fd ["_law_script","_law_k"] (fun ds=>aq (dv (ar 2 ds))):=by
 refine Fn.okF vk (k:=0) (g:=dv) fun _ _ _ _ _ _ hr=>?_
 have hu:=hr.units
 exact (af (iG (A8 (ad at1) (dw rfl br (ac (ad at0) ae))) (af (bA (aI (ad at0) (ad at1))) aA) aA) (af (iG (qT hu (ad at0) (pP (lI ae))) (af (bA ah) aA) aA) (af (bA (bb (eM (aI (ad at0) (xw (ad at1) (dw rfl br (ac (ad at0) ae)))) ah) (ad at1))) aA)))
theorem uE:FnScope ["_law_script","_law_k","_law_many","_law_drawn"] ["_law_script","_law_k","_law_many"] (ao (top 62)):=by walk_at "s"
theorem vf {cg:List D->R D} (vE:Callee P w K mg base "_law_cell" 1 2 cg) (Fn:FU K "_law_pick" 62 f fd):FnF P w K mg base 2 f fd ["_law_script","_law_k","_law_many"] (fun ds=>aq (du cg (ar 4 ds))):=by
 have hN:(["_law_script","_law_k","_law_many","_law_drawn"]:List Str).Nodup:=by decide
 exact Fn.okF uE (k:=1) (g:=du cg) fun _ _ _ _ _ _ hr=>(af (ck at3 hN (xw (eM (bb (aG vE hr (ac (ad at0) (ac (ad at1) ae))) (eM ah (bb (ad at1) ah))) ah) ah)) (af (bA (xw (xw (bb (eM (ad at3) (ad at3)) (Gx (ad at3) ah)) ah) (ad at2))) aA))
theorem yS:FnScope ["_law_script","_law_at","_law_width","_law_made","_law_k","_law_long"] ["_law_script","_law_at","_law_width"] (ao (top 63)):=by walk_at "s"
theorem yz (cC:mg "range"=none) (bv:Callee P w K mg base "_law_pick" 2 3 am) (Fn:FU K "_law_row" 63 f fd):FnF P w K mg base 3 f fd ["_law_script","_law_at","_law_width"] (fun ds=>aq (jj am (ar 6 ds))):=by
 have hN:(["_law_script","_law_at","_law_width","_law_made","_law_k","_law_long"]:List Str).Nodup:=by decide
 refine Fn.okF yS (k:=2) (g:=jj am) fun _ _ _ _ _ _ hr=>?_
 have hu:=hr.units
 exact (af (ck at3 hN (bJ (l:=[]) rfl (by decide))) (af (lD PassesOwn.leaving rfl (lP rfl cC (ac (ad at2) ae)) (dU 4 hN) (af (ck at3 hN (bb (ad at3) (aI (bJ (l:=[32,32,97,98,35]) rfl (by decide)) (aG bv hr (ac (ad at0) (ac (bb (bb (ad at1) ah) (ad at4)) (ac ah ae))))))) aA)) (af (ck at5 hN (aG bv hr (ac (ad at0) (ac (ad at1) (ac (bb (ad at2) ah) ae))))) (af (bA (B4 (qT hu (aG bv hr (ac (ad at0) (ac (bb (ad at1) ah) (ac ah ae)))) ah) (ad at3) (bb (cF (ad at3) cM (fq (ad at5))) (eM (bJ (l:=[32]) rfl (by decide)) (nq (ad at2) (ad at5)))))) aA))))
theorem pT:FnScope ["_law_script","_law_at","_law_width","_law_many","_law_rows"] ["_law_script","_law_at","_law_width","_law_many"] (ao (top 64)):=by walk_at "s"
theorem rf (cC:mg "range"=none) (bZ:mg "tuple"=none) (kj:Callee P w K mg base "_law_row" 3 3 aW) (bv:Callee P w K mg base "_law_pick" 3 3 am) (Fn:FU K "_law_screen" 64 f fd):FnF P w K mg base 4 f fd ["_law_script","_law_at","_law_width","_law_many"] (fun ds=>aq (fC aW am (ar 5 ds))):=by
 have hN:(["_law_script","_law_at","_law_width","_law_many","_law_rows"]:List Str).Nodup:=by decide
 exact Fn.okF pT (k:=3) (g:=fC aW am) fun _ _ _ _ _ _ hr=>(af (ck at4 hN (rC rfl bZ (ac (jq (dY (N':=["_law_k","_law_script","_law_at","_law_width"]) (ix:=[0,1,2]) fA rfl (lP rfl cC (ac (ad at3) ae)) (fun C s₂ H₂ fp=>(aG kj hr (ac (bX at1) (ac (bb (bX at2) (eM ah (bX at0))) (ac (bX at3) ae))))) (fun C s₂ H₂ fp=>gR))) ae))) (af (bA (di (ac (ad at2) (ac (ad at4) (ac (di (ac (aG bv hr (ac (ad at0) (ac (bb (ad at1) ah) (ac (ad at3) ae)))) (ac (aG bv hr (ac (ad at0) (ac (bb (ad at1) ah) (ac (bb (ad at2) ah) ae)))) ae))) ae))))) aA))
theorem vg:FnScope ["_law_script","_law_at"] ["_law_script","_law_at"] (ao (top 65)):=by walk_at "s"
theorem uX {cj:List D->R D} (bv:Callee P w K mg base "_law_pick" 4 3 am) (qM:Callee P w K mg base "_law_screen" 4 4 cj) (Fn:FU K "_law_some" 65 f fd):FnF P w K mg base 5 f fd ["_law_script","_law_at"] (fun ds=>aq (iA am cj (ar 2 ds))):=by
 exact Fn.okF vg (k:=4) (g:=iA am cj) fun _ _ _ _ _ _ hr=>(af (bA (aG qM hr (ac (ad at0) (ac (bb (ad at1) ah) (ac (bb ah (aG bv hr (ac (ad at0) (ac (ad at1) (ac ah ae))))) (ac (bb ah (aG bv hr (ac (ad at0) (ac (bb (ad at1) ah) (ac ah ae))))) ae)))))) aA)
theorem uW:FnScope ["_law_script","_law_at","_law_screen_here","_law_made","_law_k","_law_row_here","_law_way","_law_spot"] ["_law_script","_law_at","_law_screen_here"] (ao (top 66)):=by walk_at "s"
theorem uN (bN:mg "enumerate"=none) (br:mg "len"=none) (bv:Callee P w K mg base "_law_pick" 3 3 am) (kj:Callee P w K mg base "_law_row" 3 3 aW) (Fn:FU K "_law_goal" 66 f fd):FnF P w K mg base 4 f fd ["_law_script","_law_at","_law_screen_here"] (fun ds=>aq (ic am aW (ar 8 ds))):=by
 have hN:(["_law_script","_law_at","_law_screen_here","_law_made","_law_k","_law_row_here","_law_way","_law_spot"]:List Str).Nodup:=by decide
 refine Fn.okF uW (k:=3) (g:=ic am aW) fun _ _ _ _ _ _ hr=>?_
 have hu:=hr.units
 exact (af (zr 3 hN (lI ae)) (af (lD PassesOwn.leaving rfl (uq rfl bN (aI (ad at2) ah)) (kG rfl (cb 4 hN (cb 5 hN iM))) (af (ck at6 hN (aG bv hr (ac (ad at0) (ac (bb (ad at1) (eM ah (ad at4))) (ac ah ae))))) (af (iG (qT hu (ad at6) ah) (af (ck at5 hN (aG kj hr (ac (ad at0) (ac (bb (bb (ad at1) (eM ah (ad at4))) ah) (ac (aI (ad at2) ah) ae))))) aA) (af (iG (A8 (ad at6) ah) (af (ck at7 hN (aG bv hr (ac (ad at0) (ac (bb (bb (ad at1) (eM ah (ad at4))) ah) (ac (aI (ad at2) ah) ae))))) (af (ck at5 hN (bb (bb (cF (ad at5) cM (fq (ad at7))) (aI (bJ (l:=[97,98,32,35]) rfl (by decide)) (aG bv hr (ac (ad at0) (ac (bb (bb (ad at1) (eM ah (ad at4))) ah) (ac ah ae)))))) (cF (ad at5) (fq (bb (ad at7) ah)) cM))) aA)) aA) aA)) (af (jz 3 (Cl (ad at5) (ac (bJ (l:=[32]) rfl (by decide)) ae))) aA))) (hn:=fQ _)) (sx 3 (af (bA (cF (ad at3) cM (fq (nq (dw rfl br (ac (ad at3) ae)) (aG bv hr (ac (ad at0) (ac (bb (ad at1) ah) (ac ah ae)))))))) aA))))
theorem vG:FnScope ["thing"] ["thing"] (ao (top 6)):=by walk_at "s"
theorem vx (sf:mg "bool"=none) (vc:mg "int"=none) (aB:mg "isinstance"=none) (Fn:FU K "is_whole" 6 f fd):FnF P w K mg base 1 f fd ["thing"] (fun ds=>aq (fh (ar 1 ds))):=by
 exact Fn.okF vG (k:=0) (g:=fh) fun _ _ _ _ _ _ hr=>(af (bA (gF (E5 aB (ad at0) vc) (hU (GP (B3 aB (ad at0) sf))))) aA)
theorem sY:FnScope ["thing","low","high"] ["thing","low","high"] (ao (top 7)):=by walk_at "s"
theorem tY {df:List D->R D} (xT:Callee P w K mg base "is_whole" 1 1 df) (Fn:FU K "is_within" 7 f fd):FnF P w K mg base 2 f fd ["thing","low","high"] (fun ds=>aq (dP df (ar 3 ds))):=by
 exact Fn.okF sY (k:=1) (g:=dP df) fun _ _ _ _ _ _ hr=>(af (bA (gF (aG xT hr (ac (ad at0) ae)) (hU (vC (ad at1) (ad at0) (ad at2))))) aA)
theorem vK:FnScope ["thing"] ["thing"] (ao (top 8)):=by walk_at "s"
theorem uL (mx:mg "all"=none) (aB:mg "isinstance"=none) (Aj:mg "str"=none) (Fn:FU K "is_plain" 8 f fd):FnF P w K mg base 1 f fd ["thing"] (fun ds=>aq (fk (ar 1 ds))):=by
 exact Fn.okF vK (k:=0) (g:=fk) fun _ _ _ _ _ _ hr=>(af (bA (gF (EC aB (ad at0) Aj) (hU (EF rfl rfl mx (ac (jq (dY (N':=["sign"]) (ix:=[]) fA rfl (gL (ad at0)) (fun C s₂ H₂ fp=>(vC (bJ (l:=[32]) rfl (by decide)) (bX at0) (bJ (l:=[126]) rfl (by decide)))) (fun C s₂ H₂ fp=>gR))) ae))))) aA)
theorem lH:FnScope ["thing","width"] ["thing","width"] (ao (top 12)):=by walk_at "s"
theorem lJ (mx:mg "all"=none) (aB:mg "isinstance"=none) (br:mg "len"=none) (bZ:mg "tuple"=none) {gA:Tok} (bV:mg "MOST_ROWS"=some (.int 12 gA)) (fS:Callee P w K mg base "is_plain" 1 1 aO) (Fn:FU K "are_full_rows" 12 f fd):FnF P w K mg base 2 f fd ["thing","width"] (fun ds=>aq (cE aO (ar 2 ds))):=by
 refine Fn.okF lH (k:=1) (g:=cE aO) fun _ _ _ _ _ _ hr=>?_
 have hu:=hr.units
 exact (af (iG (lK (iX (gK (gH (jR aB (ad at0) bZ))) (fE (gK (Gv ah (dw rfl br (ac (ad at0) ae)) (fm rfl bV)))))) (af (bA lG) aA) aA) (af (bA (EF rfl rfl mx (ac (jq (dY (N':=["row","width"]) (ix:=[1]) fA rfl (gL (ad at0)) (fun C s₂ H₂ fp=>(gF (aG fS hr (ac (bX at0) ae)) (hU (oY hu (dw rfl br (ac (bX at0) ae)) (bX at1))))) (fun C s₂ H₂ fp=>gR))) ae))) aA))
theorem vh:FnScope ["thing","width","many"] ["thing","width","many"] (ao (top 13)):=by walk_at "s"
theorem uy (aB:mg "isinstance"=none) (br:mg "len"=none) (bZ:mg "tuple"=none) (cT:Callee P w K mg base "is_within" 2 3 az) (Fn:FU K "is_place" 13 f fd):FnF P w K mg base 3 f fd ["thing","width","many"] (fun ds=>aq (fg az (ar 3 ds))):=by
 refine Fn.okF vh (k:=2) (g:=fg az) fun _ _ _ _ _ _ hr=>?_
 have hu:=hr.units
 exact (af (iG (lK (iX (gK (gH (jR aB (ad at0) bZ))) (fE (oZ hu (dw rfl br (ac (ad at0) ae)) ah)))) (af (bA lG) aA) aA) (af (bA (gF (aG cT hr (ac (aI (ad at0) ah) (ac ah (ac (nq (ad at2) ah) ae)))) (hU (aG cT hr (ac (aI (ad at0) ah) (ac ah (ac (ad at1) ae))))))) aA))
theorem sL:FnScope ["thing","width"] ["thing"] (ao (top 14)):=by walk_at "s"
theorem tP {aV bM:List D->R D} (aB:mg "isinstance"=none) (br:mg "len"=none) (bZ:mg "tuple"=none) {fo:Tok} (bK:mg "MOST_WIDTH"=some (.int 40 fo)) (cT:Callee P w K mg base "is_within" 3 3 az) (mE:Callee P w K mg base "are_full_rows" 3 2 aV) (xI:Callee P w K mg base "is_place" 3 3 bM) (Fn:FU K "is_screen" 14 f fd):FnF P w K mg base 4 f fd ["thing"] (fun ds=>aq (dM az aV bM (ar 2 ds))):=by
 have hN:(["thing","width"]:List Str).Nodup:=by decide
 refine Fn.okF sL (k:=3) (g:=dM az aV bM) fun _ _ _ _ _ _ hr=>?_
 have hu:=hr.units
 exact (af (iG (lK (iX (gK (gH (jR aB (ad at0) bZ))) (fE (oZ hu (dw rfl br (ac (ad at0) ae)) ah)))) (af (bA lG) aA) aA) (af (ck at1 hN (aI (ad at0) ah)) (af (iG (lK (iX (gK (gH (aG cT hr (ac (ad at1) (ac ah (ac (fm rfl bK) ae)))))) (fE (gK (gH (aG mE hr (ac (aI (ad at0) ah) (ac (ad at1) ae)))))))) (af (bA lG) aA) aA) (af (bA (aG xI hr (ac (aI (ad at0) ah) (ac (ad at1) (ac (dw rfl br (ac (aI (ad at0) ah) ae)) ae))))) aA))))
theorem mM:FnScope ["thing"] ["thing"] (ao (top 15)):=by walk_at "s"
theorem oN {cU:List D->R D} (ef:Ref "NoScreen" bz mg base) (vy:Callee P w K mg base "is_screen" 4 1 cU) (Fn:FU K "check_screen" 15 f fd):FnF P w K mg base 5 f fd ["thing"] (fun ds=>aq (cN cU bz (ar 1 ds))):=by
 refine Fn.okF mM (k:=4) (g:=cN cU bz) fun _ _ _ _ _ _ hr=>?_
 have hh:=hr.hd
 exact (af (iG (gK (gH (aG vy hr (ac (ad at0) ae)))) (af (kw ef hh (bJ (l:=[116,104,105,115,32,105,115,32,110,111,32,115,99,114,101,101,110]) rfl (by decide))) aA) aA) aA)
theorem vV:FnScope ["screen","thing"] ["screen","thing"] (ao (top 16)):=by walk_at "s"
theorem uU (mx:mg "all"=none) (aB:mg "isinstance"=none) (br:mg "len"=none) (ir:mg "list"=none) (fw:Callee P w K mg base "check_screen" 5 1 av) (fS:Callee P w K mg base "is_plain" 5 1 aO) (Fn:FU K "are_rows" 16 f fd):FnF P w K mg base 6 f fd ["screen","thing"] (fun ds=>aq (ie av aO (ar 2 ds))):=by
 exact Fn.okF vV (k:=5) (g:=ie av aO) fun _ _ _ _ _ _ hr=>(af (lh (aG fw hr (ac (ad at0) ae))) (af (iG (lK (iX (gK (gH (xr aB (ad at1) ir))) (fE (Ar (dw rfl br (ac (ad at1) ae)) (dw rfl br (ac (aI (ad at0) ah) ae)))))) (af (bA lG) aA) aA) (af (bA (EF rfl rfl mx (ac (jq (dY (N':=["row","screen"]) (ix:=[0]) fA rfl (gL (ad at1)) (fun C s₂ H₂ fp=>(gF (aG fS hr (ac (bX at0) ae)) (hU (Kc (dw rfl br (ac (bX at0) ae)) (aI (bX at1) ah))))) (fun C s₂ H₂ fp=>gR))) ae))) aA)))
theorem qJ:FnScope ["screen","thing"] ["screen","thing"] (ao (top 17)):=by walk_at "s"
theorem qc {dj:List D->R D} (ef:Ref "NoScreen" bz mg base) (xQ:Callee P w K mg base "are_rows" 6 2 dj) (Fn:FU K "check_rows" 17 f fd):FnF P w K mg base 7 f fd ["screen","thing"] (fun ds=>aq (fB dj bz (ar 2 ds))):=by
 refine Fn.okF qJ (k:=6) (g:=fB dj bz) fun _ _ _ _ _ _ hr=>?_
 have hh:=hr.hd
 exact (af (iG (gK (gH (aG xQ hr (ac (ad at0) (ac (ad at1) ae))))) (af (kw ef hh (bJ (l:=[116,104,101,115,101,32,97,114,101,32,110,111,32,114,111,119,115,32,116,104,97,116,32,116,104,101,32,115,99,114,101,101,110,32,99,97,110,32,115,104,111,119]) rfl (by decide))) aA) aA) aA)
theorem tE:FnScope ["screen","rows","width","missing"] ["screen","rows"] (ao (top 18)):=by walk_at "s"
theorem rR (br:mg "len"=none) (Fn:FU K "full_rows" 18 f fd):FnF P w K mg base 1 f fd ["screen","rows"] (fun ds=>aq (gy (ar 4 ds))):=by
 have hN:(["screen","rows","width","missing"]:List Str).Nodup:=by decide
 exact Fn.okF tE (k:=0) (g:=gy) fun _ _ _ _ _ _ hr=>(af (ck at2 hN (aI (ad at0) ah)) (af (ck at3 hN (nq (dw rfl br (ac (aI (ad at0) ah) ae)) (dw rfl br (ac (ad at1) ae)))) (af (bA (bb (jq (dY (N':=["row","width"]) (ix:=[2]) fA rfl (gL (ad at1)) (fun C s₂ H₂ fp=>(Bl (bX at0) (ac (bX at1) ae))) (fun C s₂ H₂ fp=>gR))) (eM (pP (lI (ac (eM (bJ (l:=[32]) rfl (by decide)) (ad at2)) ae))) (ad at3)))) aA)))
theorem mY:FnScope ["screen","rows","spots","number","row","own"] ["screen","rows"] (ao (top 19)):=by walk_at "s"
theorem oA (bN:mg "enumerate"=none) (cC:mg "range"=none) (iu:Callee P w K mg base "check_rows" 7 2 aw) (jn:Callee P w K mg base "full_rows" 7 2 ax) (Fn:FU K "unlike_spots" 19 f fd):FnF P w K mg base 8 f fd ["screen","rows"] (fun ds=>aq (dB aw ax (ar 6 ds))):=by
 have hN:(["screen","rows","spots","number","row","own"]:List Str).Nodup:=by decide
 refine Fn.okF mY (k:=7) (g:=dB aw ax) fun _ _ _ _ _ _ hr=>?_
 have hu:=hr.units
 exact (af (lh (aG iu hr (ac (ad at0) (ac (ad at1) ae)))) (af (zr 2 hN (lI ae)) (af (lD PassesOwn.leaving rfl (uq rfl bN (aG jn hr (ac (ad at0) (ac (ad at1) ae)))) (kG rfl (cb 3 hN (cb 4 hN iM))) (af (ck at5 hN (aI (aI (ad at0) ah) (ad at3))) (af (wJ 2 (jq (dY (N':=["column","number","row","own"]) (ix:=[3,4,5]) fA rfl (lP rfl cC (ac (aI (ad at0) ah) ae)) (fun C s₂ H₂ fp=>(di (ac (bX at1) (ac (bX at0) ae)))) (fun C s₂ H₂ fp=>(zb (oZ hu (aI (bX at3) (bX at0)) (aI (bX at2) (bX at0)))))))) aA)) (hn:=fQ _)) (sx 2 (af (bA (ad at2)) aA)))))
theorem jO:FnScope ["span","spot"] ["span","spot"] (ao (top 21)):=by walk_at "s"
theorem jU (Fn:FU K "is_right_behind" 21 f fd):FnF P w K mg base 1 f fd ["span","spot"] (fun ds=>aq (cR (ar 2 ds))):=by
 refine Fn.okF jO (k:=0) (g:=cR) fun _ _ _ _ _ _ hr=>?_
 have hu:=hr.units
 exact (af (bA (gF (oY hu (aI (ad at0) ah) (aI (ad at1) ah)) (hU (oY hu (bb (aI (ad at0) ah) (aI (ad at0) ah)) (aI (ad at1) ah))))) aA)
theorem CJ:FnScope ["screen","rows","found","spot","last"] ["screen","rows"] (ao (top 22)):=by walk_at "s"
theorem Df {aP:List D->R D} (br:mg "len"=none) (fx:Callee P w K mg base "unlike_spots" 8 2 ai) (kg:Callee P w K mg base "is_right_behind" 8 2 aP) (Fn:FU K "spans" 22 f fd):FnF P w K mg base 9 f fd ["screen","rows"] (fun ds=>aq (oP ai aP (ar 5 ds))):=by
 have hN:(["screen","rows","found","spot","last"]:List Str).Nodup:=by decide
 exact Fn.okF CJ (k:=8) (g:=oP ai aP) fun _ _ _ _ _ _ hr=>(af (zr 2 hN (lI ae)) (af (lD PassesOwn.leaving rfl (gL (aG fx hr (ac (ad at0) (ac (ad at1) ae)))) (dU 3 hN) (af (JY 2 (lK (Ae (Ar (dw rfl br (ac (ad at2) ae)) ah) (wI (gH (aG kg hr (ac (aI (ad at2) (Ak ah)) (ac (ad at3) ae))))))) (af (Ej 2 4 hN (aI (ad at2) (Ak ah))) (af (DW 2 (di (ac (aI (ad at4) ah) (ac (aI (ad at4) ah) (ac (bb (aI (ad at4) ah) ah) ae)))) (Ak ah)) aA)) (af (jz 2 (di (ac (aI (ad at3) ah) (ac (aI (ad at3) ah) (ac ah ae))))) aA)) aA)) (sx 2 (af (bA (ad at2)) aA))))
theorem uC:FnScope ["_law_screen_here","_law_rows","_law_made"] ["_law_screen_here","_law_rows"] (ao (top 67)):=by walk_at "s"
theorem vU (br:mg "len"=none) (bZ:mg "tuple"=none) (Fn:FU K "_law_full" 67 f fd):FnF P w K mg base 1 f fd ["_law_screen_here","_law_rows"] (fun ds=>aq (ik (ar 3 ds))):=by
 have hN:(["_law_screen_here","_law_rows","_law_made"]:List Str).Nodup:=by decide
 exact Fn.okF uC (k:=0) (g:=ik) fun _ _ _ _ _ _ hr=>(af (Ex 2 hN (N':=["_law_row_here","_law_screen_here"]) (ix:=[0]) fA rfl (gL (ad at1)) (fun C s₂ H₂ fp=>(bb (bX at0) (eM (bJ (l:=[32]) rfl (by decide)) (nq (aI (bX at1) ah) (dw rfl br (ac (bX at0) ae)))))) (fun C s₂ H₂ fp=>gR)) (sx 2 (af (bA (rC rfl bZ (ac (bb (ad at2) (eM (pP (lI (ac (eM (bJ (l:=[32]) rfl (by decide)) (aI (ad at0) ah)) ae))) (nq (dw rfl br (ac (aI (ad at0) ah) ae)) (dw rfl br (ac (ad at1) ae))))) ae))) aA)))
theorem Av:FnScope ["thing"] ["thing"] (ao (top 27)):=by walk_at "s"
theorem zW (br:mg "len"=none) {fW:Tok} (bW:mg "MOST_SAID"=some (.int 40 fW)) (fS:Callee P w K mg base "is_plain" 1 1 aO) (Fn:FU K "is_say" 27 f fd):FnF P w K mg base 2 f fd ["thing"] (fun ds=>aq (kK aO (ar 1 ds))):=by
 refine Fn.okF Av (k:=1) (g:=kK aO) fun _ _ _ _ _ _ hr=>?_
 have hu:=hr.units
 exact (af (bA (gF (oY hu (dw rfl br (ac (ad at0) ae)) ah) (gF (oY hu (aI (ad at0) ah) (bJ (l:=[115,97,121]) rfl (by decide))) (gF (aG fS hr (ac (aI (ad at0) ah) ae)) (hU (vC ah (dw rfl br (ac (aI (ad at0) ah) ae)) (fm rfl bW))))))) aA)
theorem CI:FnScope ["thing"] ["thing"] (ao (top 28)):=by walk_at "s"
theorem C3 (br:mg "len"=none) {gA:Tok} (bV:mg "MOST_ROWS"=some (.int 12 gA)) {fo:Tok} (bK:mg "MOST_WIDTH"=some (.int 40 fo)) (cT:Callee P w K mg base "is_within" 2 3 az) (Fn:FU K "is_go" 28 f fd):FnF P w K mg base 3 f fd ["thing"] (fun ds=>aq (mG az (ar 1 ds))):=by
 refine Fn.okF CI (k:=2) (g:=mG az) fun _ _ _ _ _ _ hr=>?_
 have hu:=hr.units
 exact (af (iG (lK (iX (oZ hu (dw rfl br (ac (ad at0) ae)) ah) (fE (oZ hu (aI (ad at0) ah) (bJ (l:=[103,111]) rfl (by decide)))))) (af (bA lG) aA) aA) (af (bA (gF (aG cT hr (ac (aI (ad at0) ah) (ac ah (ac (nq (fm rfl bV) ah) ae)))) (hU (aG cT hr (ac (aI (ad at0) ah) (ac ah (ac (fm rfl bK) ae))))))) aA))
theorem uw:FnScope ["thing"] ["thing"] (ao (top 29)):=by walk_at "s"
theorem uR {dL fZ:List D->R D} (aB:mg "isinstance"=none) (bZ:mg "tuple"=none) (CH:Callee P w K mg base "is_say" 3 1 dL) (Eo:Callee P w K mg base "is_go" 3 1 fZ) (Fn:FU K "is_order" 29 f fd):FnF P w K mg base 4 f fd ["thing"] (fun ds=>aq (hV dL fZ (ar 1 ds))):=by
 refine Fn.okF uw (k:=3) (g:=hV dL fZ) fun _ _ _ _ _ _ hr=>?_
 have hu:=hr.units
 exact (af (iG (gK (gH (jR aB (ad at0) bZ))) (af (bA lG) aA) aA) (af (bA (Jn (aG CH hr (ac (ad at0) ae)) (Jn (aG Eo hr (ac (ad at0) ae)) (hU (oY hu (ad at0) (di (ac (bJ (l:=[119,105,112,101]) rfl (by decide)) ae))))))) aA))
theorem pf:FnScope ["thing"] ["thing"] (ao (top 30)):=by walk_at "s"
theorem oV {de:List D->R D} (fL:Ref "NoOrder" bp mg base) (yK:Callee P w K mg base "is_order" 4 1 de) (Fn:FU K "check_order" 30 f fd):FnF P w K mg base 5 f fd ["thing"] (fun ds=>aq (eP de bp (ar 1 ds))):=by
 refine Fn.okF pf (k:=4) (g:=eP de bp) fun _ _ _ _ _ _ hr=>?_
 have hh:=hr.hd
 exact (af (iG (gK (gH (aG yK hr (ac (ad at0) ae)))) (af (kw fL hh (bJ (l:=[116,104,105,115,32,105,115,32,110,111,32,111,114,100,101,114]) rfl (by decide))) aA) aA) aA)
theorem nC:FnScope ["thing","order"] ["thing"] (ao (top 31)):=by walk_at "s"
theorem nA {bw:List D->R D} (aB:mg "isinstance"=none) (ir:mg "list"=none) (fL:Ref "NoOrder" bp mg base) (qP:Callee P w K mg base "check_order" 5 1 bw) (Fn:FU K "check_orders" 31 f fd):FnF P w K mg base 6 f fd ["thing"] (fun ds=>aq (dA bw bp (ar 2 ds))):=by
 have hN:(["thing","order"]:List Str).Nodup:=by decide
 refine Fn.okF nC (k:=5) (g:=dA bw bp) fun _ _ _ _ _ _ hr=>?_
 have hh:=hr.hd
 exact (af (iG (gK (gH (xr aB (ad at0) ir))) (af (kw fL hh (bJ (l:=[116,104,105,115,32,105,115,32,110,111,32,108,105,115,116,32,111,102,32,111,114,100,101,114,115]) rfl (by decide))) aA) aA) (af (lD PassesOwn.leaving rfl (gL (ad at0)) (dU 1 hN) (af (lh (aG qP hr (ac (ad at1) ae))) aA)) aA))
theorem iR:FnScope ["screen","row","column","number","rows"] ["screen","row","column"] (ao (top 32)):=by walk_at "s"
theorem iT (Fn:FU K "with_row_at_place" 32 f fd):FnF P w K mg base 1 f fd ["screen","row","column"] (fun ds=>aq (cD (ar 5 ds))):=by
 have hN:(["screen","row","column","number","rows"]:List Str).Nodup:=by decide
 exact Fn.okF iR (k:=0) (g:=cD) fun _ _ _ _ _ _ hr=>(af (ck at3 hN (aI (aI (ad at0) ah) ah)) (af (ck at4 hN (bb (bb (cF (aI (ad at0) ah) cM (fq (ad at3))) (di (ac (ad at1) ae))) (cF (aI (ad at0) ah) (fq (bb (ad at3) ah)) cM))) (af (bA (di (ac (aI (ad at0) ah) (ac (ad at4) (ac (di (ac (ad at3) (ac (ad at2) ae))) ae))))) aA)))
theorem sG:FnScope ["screen","text","row","begin","end"] ["screen","text"] (ao (top 33)):=by walk_at "s"
theorem sw (br:mg "len"=none) (iL:Ref "NoRoom" bn mg base) (cQ:Callee P w K mg base "with_row_at_place" 1 3 ak) (Fn:FU K "after_say" 33 f fd):FnF P w K mg base 2 f fd ["screen","text"] (fun ds=>aq (gh ak bn (ar 5 ds))):=by
 have hN:(["screen","text","row","begin","end"]:List Str).Nodup:=by decide
 refine Fn.okF sG (k:=1) (g:=gh ak bn) fun _ _ _ _ _ _ hr=>?_
 have hh:=hr.hd
 exact (af (ck at2 hN (aI (aI (ad at0) ah) (aI (aI (ad at0) ah) ah))) (af (ck at3 hN (aI (aI (ad at0) ah) ah)) (af (ck at4 hN (bb (ad at3) (dw rfl br (ac (ad at1) ae)))) (af (iG (Ar (ad at4) (aI (ad at0) ah)) (af (kw iL hh (bJ (l:=[116,104,101,32,116,101,120,116,32,105,115,32,119,105,100,101,114,32,116,104,97,110,32,119,104,97,116,32,105,115,32,108,101,102,116,32,111,102,32,116,104,101,32,114,111,119]) rfl (by decide))) aA) aA) (af (bA (aG cQ hr (ac (ad at0) (ac (bb (bb (cF (ad at2) cM (fq (ad at3))) (ad at1)) (cF (ad at2) (fq (ad at4)) cM)) (ac (ad at4) ae))))) aA)))))
theorem vw:FnScope ["screen","number","column"] ["screen","number","column"] (ao (top 34)):=by walk_at "s"
theorem vA (br:mg "len"=none) (iL:Ref "NoRoom" bn mg base) (Fn:FU K "after_go" 34 f fd):FnF P w K mg base 1 f fd ["screen","number","column"] (fun ds=>aq (iz bn (ar 3 ds))):=by
 refine Fn.okF vw (k:=0) (g:=iz bn) fun _ _ _ _ _ _ hr=>?_
 have hh:=hr.hd
 exact (af (iG (lK (iX (IA (ad at1) (dw rfl br (ac (aI (ad at0) ah) ae))) (fE (Ar (ad at2) (aI (ad at0) ah))))) (af (kw iL hh (bJ (l:=[116,104,101,32,115,99,114,101,101,110,32,100,111,101,115,32,110,111,116,32,104,97,118,101,32,116,104,105,115,32,112,108,97,99,101]) rfl (by decide))) aA) aA) (af (bA (di (ac (aI (ad at0) ah) (ac (aI (ad at0) ah) (ac (di (ac (ad at1) (ac (ad at2) ae))) ae))))) aA))
theorem qi:FnScope ["screen","row","column"] ["screen"] (ao (top 35)):=by walk_at "s"
theorem pW (cQ:Callee P w K mg base "with_row_at_place" 1 3 ak) (Fn:FU K "after_wipe" 35 f fd):FnF P w K mg base 2 f fd ["screen"] (fun ds=>aq (fF ak (ar 3 ds))):=by
 have hN:(["screen","row","column"]:List Str).Nodup:=by decide
 exact Fn.okF qi (k:=1) (g:=fF ak) fun _ _ _ _ _ _ hr=>(af (ck at1 hN (aI (aI (ad at0) ah) (aI (aI (ad at0) ah) ah))) (af (ck at2 hN (aI (aI (ad at0) ah) ah)) (af (bA (aG cQ hr (ac (ad at0) (ac (Bl (cF (ad at1) cM (fq (ad at2))) (ac (aI (ad at0) ah) ae)) (ac (ad at2) ae))))) aA)))
theorem oU:FnScope ["screen","order"] ["screen","order"] (ao (top 36)):=by walk_at "s"
theorem pd {bO ca bD:List D->R D} (uK:Callee P w K mg base "after_say" 2 2 bO) (yv:Callee P w K mg base "after_go" 2 3 ca) (tH:Callee P w K mg base "after_wipe" 2 1 bD) (Fn:FU K "after_order" 36 f fd):FnF P w K mg base 3 f fd ["screen","order"] (fun ds=>aq (eI bO ca bD (ar 2 ds))):=by
 refine Fn.okF oU (k:=2) (g:=eI bO ca bD) fun _ _ _ _ _ _ hr=>?_
 have hu:=hr.units
 exact (af (iG (qT hu (aI (ad at1) ah) (bJ (l:=[115,97,121]) rfl (by decide))) (af (bA (aG uK hr (ac (ad at0) (ac (aI (ad at1) ah) ae)))) aA) aA) (af (iG (qT hu (aI (ad at1) ah) (bJ (l:=[103,111]) rfl (by decide))) (af (bA (aG yv hr (ac (ad at0) (ac (aI (ad at1) ah) (ac (aI (ad at1) ah) ae))))) aA) aA) (af (bA (aG tH hr (ac (ad at0) ae))) aA)))
theorem uv:FnScope ["screen","orders","current","order"] ["screen","orders"] (ao (top 37)):=by walk_at "s"
theorem vH {aS:List D->R D} (fw:Callee P w K mg base "check_screen" 6 1 av) (cL:Callee P w K mg base "check_orders" 6 1 aj) (qD:Callee P w K mg base "after_order" 6 2 aS) (Fn:FU K "all_done" 37 f fd):FnF P w K mg base 7 f fd ["screen","orders"] (fun ds=>aq (hX av aj aS (ar 4 ds))):=by
 have hN:(["screen","orders","current","order"]:List Str).Nodup:=by decide
 exact Fn.okF uv (k:=6) (g:=hX av aj aS) fun _ _ _ _ _ _ hr=>(af (lh (aG fw hr (ac (ad at0) ae))) (af (lh (aG cL hr (ac (ad at1) ae))) (af (ck at2 hN (ad at0)) (af (lD PassesOwn.leaving rfl (gL (ad at1)) (dU 3 hN) (af (ck at2 hN (aG qD hr (ac (ad at2) (ac (ad at3) ae)))) aA)) (af (bA (ad at2)) aA)))))
theorem qV:FnScope ["order"] ["order"] (ao (top 38)):=by walk_at "s"
theorem qm (br:mg "len"=none) {su:Tok} (eE:mg "GO_COST"=some (.int 2 su)) {oj:Tok} (cP:mg "WIPE_COST"=some (.int 1 oj)) (Fn:FU K "order_cost" 38 f fd):FnF P w K mg base 1 f fd ["order"] (fun ds=>aq (fy (ar 1 ds))):=by
 refine Fn.okF qV (k:=0) (g:=fy) fun _ _ _ _ _ _ hr=>?_
 have hu:=hr.units
 exact (af (iG (qT hu (aI (ad at0) ah) (bJ (l:=[115,97,121]) rfl (by decide))) (af (bA (dw rfl br (ac (aI (ad at0) ah) ae))) aA) aA) (af (iG (qT hu (aI (ad at0) ah) (bJ (l:=[103,111]) rfl (by decide))) (af (bA (fm rfl eE)) aA) aA) (af (bA (fm rfl cP)) aA)))
theorem GD:FnScope ["orders"] ["orders"] (ao (top 39)):=by walk_at "s"
theorem ES (An:mg "sum"=none) (cL:Callee P w K mg base "check_orders" 6 1 aj) (gQ:Callee P w K mg base "order_cost" 6 1 bd) (Fn:FU K "cost" 39 f fd):FnF P w K mg base 7 f fd ["orders"] (fun ds=>aq (qR aj bd (ar 1 ds))):=by
 exact Fn.okF GD (k:=6) (g:=qR aj bd) fun _ _ _ _ _ _ hr=>(af (lh (aG cL hr (ac (ad at0) ae))) (af (bA (K6 rfl rfl An (ac (jq (dY (N':=["order"]) (ix:=[]) fA rfl (gL (ad at0)) (fun C s₂ H₂ fp=>(aG gQ hr (ac (bX at0) ae))) (fun C s₂ H₂ fp=>gR))) ae))) aA))
theorem se:FnScope ["plan"] ["plan"] (ao (top 48)):=by walk_at "s"
theorem sH (Fn:FU K "plan_cost" 48 f fd):FnF P w K mg base 1 f fd ["plan"] (fun ds=>aq (gz (ar 1 ds))):=by
 exact Fn.okF se (k:=0) (g:=gz) fun _ _ _ _ _ _ hr=>(af (bA (aI (ad at0) ah)) aA)
theorem B2:FnScope ["plans","state","plan"] ["plans","state","plan"] (ao (top 49)):=by walk_at "s"
theorem C1 (mW:Callee P w K mg base "plan_cost" 1 1 aQ) {F:MF} (ok:sQ DC (fO aQ) 3 F) (Fn:FU K "offer" 49 f fd):FnM P w K mg base 2 f fd ["plans","state","plan"] DC F:=by
 refine Fn.okM B2 ok (k:=1) fun _ _ _ _ _ _ hr=>?_
 have hu:=hr.units
 exact (af (iG (lK (iX (IE 0 hu (ad at1)) (fE (A8 (aG mW hr (ac (ad at2) ae)) (aG mW hr (ac (sU 0 hu (ad at1)) ae)))))) (af (GM 0 hu (ad at2) (ad at1)) aA) aA) aA)
theorem je:FnScope ["plans","state","plan","order"] ["plans","state","plan","order"] (ao (top 50)):=by walk_at "s"
theorem jo {I_offer:MF} (gQ:Callee P w K mg base "order_cost" 2 1 bd) (uA:CalleeM P w K mg base DC "offer" 2 2 I_offer) {F:MF} (ok:sQ DC (bx I_offer bd) 4 F) (Fn:FU K "offer_with_order" 50 f fd):FnM P w K mg base 3 f fd ["plans","state","plan","order"] DC F:=by
 exact Fn.okM je ok (k:=2) fun _ _ _ _ _ _ hr=>(af (pJ (pB 0 uA hr (ac (ad at1) (ac (di (ac (bb (aI (ad at2) ah) (aG gQ hr (ac (ad at3) ae))) (ac (bb (aI (ad at2) ah) (di (ac (ad at3) ae))) ae))) ae)))) aA)
theorem qZ:FnScope ["plans","number","column","more"] ["plans","number","column"] (ao (top 51)):=by walk_at "s"
theorem qg (sB:mg "dict"=none) (bf:mg "ELSEWHERE"=some (.ref a_ELSEWHERE)) (bB:lQ K a_ELSEWHERE (D.tup [D.bl false,D.bl false])) (dt:mg "HERE"=some (.ref a_HERE)) (fN:lQ K a_HERE (D.tup [D.bl true,D.bl false])) (bj:mg "HERE_WIPED"=some (.ref a_HERE_WIPED)) (bI:lQ K a_HERE_WIPED (D.tup [D.bl true,D.bl true])) (aJ:mg "ELSEWHERE_WIPED"=some (.ref a_ELSEWHERE_WIPED)) (aZ:lQ K a_ELSEWHERE_WIPED (D.tup [D.bl false,D.bl true])) (bU:CalleeM P w K mg base DC "offer_with_order" 3 3 I_offer_with_order) (hg:∀ ds:List D,ds.length=3->gr ds=.no\/∀ q,aq (cq I_offer_with_order q (ar 4 ds))=gr ds) (Fn:FU K "with_moves" 51 f fd):FnF P w K mg base 4 f fd ["plans","number","column"] gr:=by
 have hN:(["plans","number","column","more"]:List Str).Nodup:=by decide
 refine Fn.okA qZ (k:=3) (g:=cq I_offer_with_order) hg fun cdv A outer s H E hr=>?_
 have hu:=hr.units
 have h_1:PSF (lC (CXo P w) P w K mg base ["plans","number","column","more"] "with_moves" (ao (top 51)) f cdv A outer s H E) ((cI (top 51)).getD 1 (.Pass ⟨0,0,0,0⟩)) (dS I_offer_with_order):=(iG (C8 3 hu (bo rfl bf bB)) (af (pJ (pB 3 bU hr (ac (bo rfl dt fN) (ac (sU 3 hu (bo rfl bf bB)) (ac (di (ac (bJ (l:=[103,111]) rfl (by decide)) (ac (ad at1) (ac (ad at2) ae)))) ae))))) aA) aA)
 have h_2:PSF (lC (CXo P w) P w K mg base ["plans","number","column","more"] "with_moves" (ao (top 51)) f cdv A outer s H E) ((cI (top 51)).getD 2 (.Pass ⟨0,0,0,0⟩)) (dJ I_offer_with_order):=(iG (C8 3 hu (bo rfl dt fN)) (af (pJ (pB 3 bU hr (ac (bo rfl bj bI) (ac (sU 3 hu (bo rfl dt fN)) (ac (di (ac (bJ (l:=[119,105,112,101]) rfl (by decide)) ae)) ae))))) aA) aA)
 have h_3:PSF (lC (CXo P w) P w K mg base ["plans","number","column","more"] "with_moves" (ao (top 51)) f cdv A outer s H E) ((cI (top 51)).getD 3 (.Pass ⟨0,0,0,0⟩)) (dN I_offer_with_order):=(iG (C8 3 hu (bo rfl aJ aZ)) (af (pJ (pB 3 bU hr (ac (bo rfl bj bI) (ac (sU 3 hu (bo rfl aJ aZ)) (ac (di (ac (bJ (l:=[103,111]) rfl (by decide)) (ac (ad at1) (ac (ad at2) ae)))) ae))))) aA) aA)
 have h_4:PSF (lC (CXo P w) P w K mg base ["plans","number","column","more"] "with_moves" (ao (top 51)) f cdv A outer s H E) ((cI (top 51)).getD 4 (.Pass ⟨0,0,0,0⟩)) (jY I_offer_with_order):=(Ef 3)
 exact (BL 3 hN rfl sB (ad at0) (Bi (af h_1 (af h_2 (af h_3 (af h_4 aA))))))
theorem nu:FnScope ["plans","old","new","further","state","plan","wiped"] ["plans","old","new"] (ao (top 52)):=by walk_at "s"
theorem my {I_offer:MF} (bU:CalleeM P w K mg base DC "offer_with_order" 3 3 I_offer_with_order) (uA:CalleeM P w K mg base DC "offer" 3 2 I_offer) (hg:∀ ds:List D,ds.length=3->gr ds=.no\/∀ q,aq (cm I_offer_with_order I_offer q (ar 7 ds))=gr ds) (Fn:FU K "stepped_over" 52 f fd):FnF P w K mg base 4 f fd ["plans","old","new"] gr:=by
 have hN:(["plans","old","new","further","state","plan","wiped"]:List Str).Nodup:=by decide
 refine Fn.okA nu (k:=3) (g:=cm I_offer_with_order I_offer) hg fun cdv A outer s H E hr=>?_
 have hu:=hr.units
 have h_1:PSF (lC (CXo P w) P w K mg base ["plans","old","new","further","state","plan","wiped"] "stepped_over" (ao (top 52)) f cdv A outer s H E) ((cI (top 52)).getD 1 (.Pass ⟨0,0,0,0⟩)) (cz I_offer_with_order I_offer):=(lD PassesOwn.leaving rfl (Bc (ad at0)) (kG rfl (cb 4 hN (cb 5 hN iM))) (af (ck at6 hN (aI (ad at4) ah)) (af (iG (Hc (aI (ad at4) ah)) (af (pJ (pB 3 bU hr (ac (di (ac lG (ac (ad at6) ae))) (ac (ad at5) (ac (di (ac (bJ (l:=[115,97,121]) rfl (by decide)) (ac (ad at2) ae))) ae))))) aA) aA) (af (iG (qT hu (B4 (Ep (ad at6)) (bJ (l:=[32]) rfl (by decide)) (ad at1)) (ad at2)) (af (pJ (pB 3 uA hr (ac (di (ac lG (ac (ad at6) ae))) (ac (ad at5) ae)))) aA) aA) aA))) (hn:=fQ _))
 have h_2:PSF (lC (CXo P w) P w K mg base ["plans","old","new","further","state","plan","wiped"] "stepped_over" (ao (top 52)) f cdv A outer s H E) ((cI (top 52)).getD 2 (.Pass ⟨0,0,0,0⟩)) (eG I_offer_with_order I_offer):=(Ef 3)
 exact (FF 3 hN (Bi (af h_1 (af h_2 aA))))
theorem Dp:FnScope ["plans","number","old","new","begin","current","column"] ["plans","number","old","new","begin"] (ao (top 53)):=by walk_at "s"
theorem BF {bq aY:List D->R D} (br:mg "len"=none) (cC:mg "range"=none) (tq:Callee P w K mg base "with_moves" 4 3 bq) (ph:Callee P w K mg base "stepped_over" 4 3 aY) (Fn:FU K "swept" 53 f fd):FnF P w K mg base 5 f fd ["plans","number","old","new","begin"] (fun ds=>aq (mX bq aY (ar 7 ds))):=by
 have hN:(["plans","number","old","new","begin","current","column"]:List Str).Nodup:=by decide
 exact Fn.okF Dp (k:=4) (g:=mX bq aY) fun _ _ _ _ _ _ hr=>(af (ck at5 hN (ad at0)) (af (lD PassesOwn.leaving rfl (zl rfl cC (ac (ad at4) (ac (dw rfl br (ac (ad at2) ae)) ae))) (dU 6 hN) (af (ck at5 hN (aG ph hr (ac (aG tq hr (ac (ad at5) (ac (ad at1) (ac (ad at6) ae)))) (ac (aI (ad at2) (ad at6)) (ac (aI (ad at3) (ad at6)) ae))))) aA)) (af (bA (ad at5)) aA)))
theorem uO:FnScope ["plans","states"] ["plans","states"] (ao (top 54)):=by walk_at "s"
theorem uF (sS:mg "min"=none) (ig:Callee P w K mg base "plan_cost" 1 1 aQ) (Fn:FU K "cheapest" 54 f fd):FnF P w K mg base 3 f fd ["plans","states"] (fun ds=>aq (ii aQ (ar 2 ds))):=by
 refine Fn.okF uO (k:=2) (g:=ii aQ) fun _ _ _ _ _ _ hr=>?_
 have hu:=hr.units
 exact (af (bA (DY rfl rfl sS ig hr.in1 (jq (dY (N':=["state","plans"]) (ix:=[0]) fA rfl (gL (ad at1)) (fun C s₂ H₂ fp=>(sU 1 hu (bX at0))) (fun C s₂ H₂ fp=>(zb (C8 1 hu (bX at0)))))))) aA)
theorem gN:FnScope ["number","old","new","plans"] ["number","old","new"] (ao (top 55)):=by walk_at "s"
theorem gM (bf:mg "ELSEWHERE"=some (.ref a_ELSEWHERE)) (bB:lQ K a_ELSEWHERE (D.tup [D.bl false,D.bl false])) (bP:mg "NO_ORDERS"=some (.ref a_NO_ORDERS)) (cO:lQ K a_NO_ORDERS (D.tup [D.int 0,D.tup []])) (bj:mg "HERE_WIPED"=some (.ref a_HERE_WIPED)) (bI:lQ K a_HERE_WIPED (D.tup [D.bl true,D.bl true])) (aJ:mg "ELSEWHERE_WIPED"=some (.ref a_ELSEWHERE_WIPED)) (aZ:lQ K a_ELSEWHERE_WIPED (D.tup [D.bl false,D.bl true])) (dt:mg "HERE"=some (.ref a_HERE)) (fN:lQ K a_HERE (D.tup [D.bl true,D.bl false])) (qF:Callee P w K mg base "swept" 5 5 bG) (iC:Callee P w K mg base "cheapest" 5 2 aR) (Fn:FU K "plan_from_elsewhere" 55 f fd):FnF P w K mg base 6 f fd ["number","old","new"] (fun ds=>aq (ci bG aR (ar 4 ds))):=by
 have hN:(["number","old","new","plans"]:List Str).Nodup:=by decide
 refine Fn.okF gN (k:=5) (g:=ci bG aR) fun _ _ _ _ _ _ hr=>?_
 have hu:=hr.units
 exact (af (ck at3 hN (aG qF hr (ac (KI hu (bo rfl bf bB) (bo rfl bP cO)) (ac (ad at0) (ac (ad at1) (ac (ad at2) (ac ah ae))))))) (af (bA (aG iC hr (ac (ad at3) (ac (di (ac (bo rfl bf bB) (ac (bo rfl dt fN) (ac (bo rfl aJ aZ) (ac (bo rfl bj bI) ae))))) ae)))) aA))
theorem jE:FnScope ["number","old","new","place","plans","right","left"] ["number","old","new","place"] (ao (top 56)):=by walk_at "s"
theorem jH (dt:mg "HERE"=some (.ref a_HERE)) (fN:lQ K a_HERE (D.tup [D.bl true,D.bl false])) (bP:mg "NO_ORDERS"=some (.ref a_NO_ORDERS)) (cO:lQ K a_NO_ORDERS (D.tup [D.int 0,D.tup []])) (bj:mg "HERE_WIPED"=some (.ref a_HERE_WIPED)) (bI:lQ K a_HERE_WIPED (D.tup [D.bl true,D.bl true])) (aJ:mg "ELSEWHERE_WIPED"=some (.ref a_ELSEWHERE_WIPED)) (aZ:lQ K a_ELSEWHERE_WIPED (D.tup [D.bl false,D.bl true])) (bf:mg "ELSEWHERE"=some (.ref a_ELSEWHERE)) (bB:lQ K a_ELSEWHERE (D.tup [D.bl false,D.bl false])) (qF:Callee P w K mg base "swept" 5 5 bG) (iC:Callee P w K mg base "cheapest" 5 2 aR) (Fn:FU K "plan_from_place" 56 f fd):FnF P w K mg base 6 f fd ["number","old","new","place"] (fun ds=>aq (cS bG aR (ar 7 ds))):=by
 have hN:(["number","old","new","place","plans","right","left"]:List Str).Nodup:=by decide
 refine Fn.okF jE (k:=5) (g:=cS bG aR) fun _ _ _ _ _ _ hr=>?_
 have hu:=hr.units
 exact (af (ck at4 hN (aG qF hr (ac (KI hu (bo rfl dt fN) (bo rfl bP cO)) (ac (ad at0) (ac (ad at1) (ac (ad at2) (ac (ad at3) ae))))))) (af (ck at5 hN (aG iC hr (ac (ad at4) (ac (di (ac (bo rfl bf bB) (ac (bo rfl dt fN) (ac (bo rfl aJ aZ) (ac (bo rfl bj bI) ae))))) ae)))) (af (ck at4 hN (aG qF hr (ac (KI hu (bo rfl bf bB) (bo rfl bP cO)) (ac (ad at0) (ac (cF (ad at1) cM (fq (ad at3))) (ac (cF (ad at2) cM (fq (ad at3))) (ac ah ae))))))) (af (ck at6 hN (aG iC hr (ac (ad at4) (ac (di (ac (bo rfl bf bB) (ac (bo rfl dt fN) ae))) ae)))) (af (bA (di (ac (bb (aI (ad at5) ah) (aI (ad at6) ah)) (ac (bb (aI (ad at5) ah) (aI (ad at6) ah)) ae)))) aA)))))
theorem iU:FnScope ["number","old","new","place","plans"] ["number","old","new","place"] (ao (top 57)):=by walk_at "s"
theorem iV {bg:List D->R D} (sS:mg "min"=none) (cB:Callee P w K mg base "plan_from_elsewhere" 6 3 ag) (kC:Callee P w K mg base "plan_from_place" 6 4 bg) (ig:Callee P w K mg base "plan_cost" 5 1 aQ) (Fn:FU K "row_of_place_plan" 57 f fd):FnF P w K mg base 7 f fd ["number","old","new","place"] (fun ds=>aq (cA ag bg aQ (ar 5 ds))):=by
 have hN:(["number","old","new","place","plans"]:List Str).Nodup:=by decide
 exact Fn.okF iU (k:=6) (g:=cA ag bg aQ) fun _ _ _ _ _ _ hr=>(af (ck at4 hN (pP (lI (ac (aG kC hr (ac (ad at0) (ac (ad at1) (ac (ad at2) (ac (ad at3) ae))))) (ac (aG cB hr (ac (ad at0) (ac (ad at1) (ac (ad at2) ae)))) ae))))) (af (bA (DY rfl rfl sS ig hr.in1 (ad at4))) aA))
theorem ko:FnScope ["one","other","text"] ["one","other"] (ao (top 40)):=by walk_at "s"
theorem kh (br:mg "len"=none) {fW:Tok} (bW:mg "MOST_SAID"=some (.int 40 fW)) (Fn:FU K "joined_or_none" 40 f fd):FnF P w K mg base 1 f fd ["one","other"] (fun ds=>aq (cZ (ar 3 ds))):=by
 have hN:(["one","other","text"]:List Str).Nodup:=by decide
 refine Fn.okF ko (k:=0) (g:=cZ) fun _ _ _ _ _ _ hr=>?_
 have hu:=hr.units
 exact (af (iG (oZ hu (aI (ad at0) ah) (aI (ad at1) ah)) (af (bA xt) aA) aA) (af (iG (oZ hu (aI (ad at0) ah) (bJ (l:=[115,97,121]) rfl (by decide))) (af (bA (ad at1)) aA) aA) (af (ck at2 hN (bb (aI (ad at0) ah) (aI (ad at1) ah))) (af (bA (B4 (LG (dw rfl br (ac (ad at2) ae)) (fm rfl bW)) (di (ac (bJ (l:=[115,97,121]) rfl (by decide)) (ac (ad at2) ae))) xt)) aA))))
theorem tW:FnScope ["orders","short","order","both"] ["orders"] (ao (top 41)):=by walk_at "s"
theorem rB {aL:List D->R D} (br:mg "len"=none) (cL:Callee P w K mg base "check_orders" 6 1 aj) (lF:Callee P w K mg base "joined_or_none" 6 2 aL) (Fn:FU K "shortened" 41 f fd):FnF P w K mg base 7 f fd ["orders"] (fun ds=>aq (gw aj aL (ar 4 ds))):=by
 have hN:(["orders","short","order","both"]:List Str).Nodup:=by decide
 exact Fn.okF tW (k:=6) (g:=gw aj aL) fun _ _ _ _ _ _ hr=>(af (lh (aG cL hr (ac (ad at0) ae))) (af (zr 1 hN (lI ae)) (af (lD PassesOwn.leaving rfl (gL (ad at0)) (dU 2 hN) (af (Ej 1 3 hN (B4 (Ar (dw rfl br (ac (ad at1) ae)) ah) (aG lF hr (ac (aI (ad at1) (Ak ah)) (ac (ad at2) ae))) xt)) (af (iG (K5 (ad at3) xt) (af (jz 1 (ad at2)) aA) (af (DW 1 (ad at3) (Ak ah)) aA)) aA))) (sx 1 (af (bA (ad at1)) aA)))))
theorem CK:FnScope ["screen","rows","wanted","own","orders","number","row"] ["screen","rows"] (ao (top 58)):=by walk_at "s"
theorem Cg {au aX:List D->R D} (bN:mg "enumerate"=none) (ir:mg "list"=none) (iu:Callee P w K mg base "check_rows" 7 2 aw) (jn:Callee P w K mg base "full_rows" 7 2 ax) (jh:Callee P w K mg base "row_of_place_plan" 7 4 au) (cB:Callee P w K mg base "plan_from_elsewhere" 7 3 ag) (ut:Callee P w K mg base "shortened" 7 1 aX) (Fn:FU K "least" 58 f fd):FnF P w K mg base 8 f fd ["screen","rows"] (fun ds=>aq (nr aw ax au ag aX (ar 7 ds))):=by
 have hN:(["screen","rows","wanted","own","orders","number","row"]:List Str).Nodup:=by decide
 refine Fn.okF CK (k:=7) (g:=nr aw ax au ag aX) fun _ _ _ _ _ _ hr=>?_
 have hu:=hr.units
 exact (af (lh (aG iu hr (ac (ad at0) (ac (ad at1) ae)))) (af (ck at2 hN (aG jn hr (ac (ad at0) (ac (ad at1) ae)))) (af (ck at3 hN (aI (aI (ad at0) ah) ah)) (af (zr 4 hN (yH rfl ir (ac (aI (aG jh hr (ac (ad at3) (ac (aI (aI (ad at0) ah) (ad at3)) (ac (aI (ad at2) (ad at3)) (ac (aI (aI (ad at0) ah) ah) ae))))) ah) ae))) (af (lD PassesOwn.leaving rfl (uq rfl bN (aI (ad at0) ah)) (kG rfl (cb 5 hN (cb 6 hN iM))) (af (iG (oZ hu (ad at5) (ad at3)) (af (He 4 (aI (aG cB hr (ac (ad at5) (ac (ad at6) (ac (aI (ad at2) (ad at5)) ae)))) ah)) aA) aA) aA) (hn:=fQ _)) (sx 4 (af (bA (aG ut hr (ac (ad at4) ae))) aA)))))))
theorem qK:FnScope ["screen","rows"] ["screen","rows"] (ao (top 59)):=by walk_at "s"
theorem qY {jg:List D->R D} (EL:Callee P w K mg base "least" 8 2 jg) (zi:Callee P w K mg base "cost" 8 1 bC) (Fn:FU K "least_cost" 59 f fd):FnF P w K mg base 9 f fd ["screen","rows"] (fun ds=>aq (fG jg bC (ar 2 ds))):=by
 exact Fn.okF qK (k:=8) (g:=fG jg bC) fun _ _ _ _ _ _ hr=>(af (bA (aG zi hr (ac (aG EL hr (ac (ad at0) (ac (ad at1) ae))) ae))) aA)
theorem Ix:FnScope ["_law_script","_law_screen_here","_law_goal_here","_law_told","_law_spots","_law_orders","_law_new","_law_row_here","_law_column","_law_many","_law_one","_law_other","_law_made"] ["_law_script"] (ao (top 68)):=by walk_at "s"
theorem Ic {aE aD:List D->R D} {bu aF:List D->R D} {aK ay:List D->R D} (cC:mg "range"=none) (Aw:mg "zip"=none) (uo:Callee P w K mg base "_law_some" 9 2 aE) (uG:Callee P w K mg base "_law_goal" 9 3 aD) (AH:Callee P w K mg base "spans" 9 2 bu) (uT:Callee P w K mg base "_law_full" 9 2 aF) (fx:Callee P w K mg base "unlike_spots" 9 2 ai) (yr:Callee P w K mg base "all_done" 9 2 aK) (zi:Callee P w K mg base "cost" 9 1 bC) (kT:Callee P w K mg base "least_cost" 9 2 ay) (Fn:FU K "law" 68 f fd):FnF P w K mg base 10 f fd ["_law_script"] (fun ds=>aq (rl aE aD bu aF ai aK bC ay (ar 13 ds))):=by
 have hN:(["_law_script","_law_screen_here","_law_goal_here","_law_told","_law_spots","_law_orders","_law_new","_law_row_here","_law_column","_law_many","_law_one","_law_other","_law_made"]:List Str).Nodup:=by decide
 refine Fn.okF Ix (k:=9) (g:=rl aE aD bu aF ai aK bC ay) fun _ _ _ _ _ _ hr=>?_
 have hu:=hr.units
 exact (af (ck at1 hN (aG uo hr (ac (ad at0) (ac ah ae)))) (af (ck at2 hN (aG uG hr (ac (ad at0) (ac ah (ac (ad at1) ae))))) (af (Fl 3 4 5 rfl hN (aG AH hr (ac (ad at1) (ac (ad at2) ae))) (lI ae) (lI ae)) (af (ck at6 hN (aG uT hr (ac (ad at1) (ac (ad at2) ae)))) (af (lD PassesOwn.leaving rfl (gL (ad at3)) (kG rfl (cb 7 hN (cb 8 hN (cb 9 hN iM)))) (af (wJ 4 (jq (dY (N':=["_law_k","_law_row_here","_law_column"]) (ix:=[7,8]) fA rfl (lP rfl cC (ac (ad at9) ae)) (fun C s₂ H₂ fp=>(di (ac (bX at1) (ac (bb (bX at2) (bX at0)) ae)))) (fun C s₂ H₂ fp=>gR)))) (af (jz 5 (di (ac (bJ (l:=[103,111]) rfl (by decide)) (ac (ad at7) (ac (ad at8) ae))))) (af (jz 5 (di (ac (bJ (l:=[115,97,121]) rfl (by decide)) (ac (cF (aI (ad at6) (ad at7)) (fq (ad at8)) (fq (bb (ad at8) (ad at9)))) ae)))) aA))) (hn:=fQ _)) (sx 4 (af (iG (oZ hu (ad at4) (aG fx hr (ac (ad at1) (ac (ad at2) ae)))) (af (bA lG) aA) aA) (af (lD PassesOwn.leaving rfl (Jp rfl Aw (ac (ad at3) (ac (cF (ad at3) (fq ah) cM) ae))) (kG rfl (cb 10 hN (cb 11 hN iM))) (af (iG (lK (iX (lK (Ae (qT hu (aI (ad JO) ah) (aI (ad Ml) ah)) (wI (IA (bb (aI (ad JO) ah) (aI (ad JO) ah)) (aI (ad Ml) ah))))) (fE (A8 (aI (ad JO) ah) ah)))) (af (bA lG) aA) aA) aA) (hn:=fQ _)) (sx 5 (af (ck Li hN (aG yr hr (ac (ad at1) (ac (ad at5) ae)))) (af (iG (lK (iX (oZ hu (aI (ad Li) ah) (ad at6)) (fE (A8 (aG zi hr (ac (ad at5) ae)) (aG kT hr (ac (ad at1) (ac (ad at2) ae))))))) (af (bA lG) aA) aA) (af (bA (gF (oY hu (aG AH hr (ac (ad Li) (ac (ad at2) ae))) (pP (lI ae))) (hU (oY hu (oY hu (ad at3) (pP (lI ae))) (oY hu (aG kT hr (ac (ad at1) (ac (ad at2) ae))) ah))))) aA))))))))))))
end
theorem Jb {w:World} {K:PySem.W.Frag} {mg:Str->Option Value} {fa:Addr} (hfa:mg "law"=some (.ref fa)) (mx:mg "all"=none) (sf:mg "bool"=none) (sB:mg "dict"=none) (bN:mg "enumerate"=none) (vc:mg "int"=none) (aB:mg "isinstance"=none) (br:mg "len"=none) (ir:mg "list"=none) (sS:mg "min"=none) (cC:mg "range"=none) (Aj:mg "str"=none) (An:mg "sum"=none) (bZ:mg "tuple"=none) (Aw:mg "zip"=none) (bf:∃ a,mg "ELSEWHERE"=some (.ref a)/\lQ K a (D.tup [D.bl false,D.bl false])) (aJ:∃ a,mg "ELSEWHERE_WIPED"=some (.ref a)/\lQ K a (D.tup [D.bl false,D.bl true])) (eE:∃ t,mg "GO_COST"=some (.int 2 t)) (dt:∃ a,mg "HERE"=some (.ref a)/\lQ K a (D.tup [D.bl true,D.bl false])) (bj:∃ a,mg "HERE_WIPED"=some (.ref a)/\lQ K a (D.tup [D.bl true,D.bl true])) (bV:∃ t,mg "MOST_ROWS"=some (.int 12 t)) (bW:∃ t,mg "MOST_SAID"=some (.int 40 t)) (bK:∃ t,mg "MOST_WIDTH"=some (.int 40 t)) (bP:∃ a,mg "NO_ORDERS"=some (.ref a)/\lQ K a (D.tup [D.int 0,D.tup []])) (cP:∃ t,mg "WIPE_COST"=some (.int 1 t)) (oq:PySem.W.nsIn K mainGlobals "NoOrder"=some (some (.ref bp))) (mD:PySem.W.excIn K bp [.type "ValueError",.type "Exception",.type "BaseException",.type "object"] "ValueError.__new__"=true) (ql:PySem.W.nsIn K mainGlobals "NoRoom"=some (some (.ref bn))) (qu:PySem.W.excIn K bn [.type "ValueError",.type "Exception",.type "BaseException",.type "object"] "ValueError.__new__"=true) (kI:PySem.W.nsIn K mainGlobals "NoScreen"=some (some (.ref bz))) (km:PySem.W.excIn K bz [.type "ValueError",.type "Exception",.type "BaseException",.type "object"] "ValueError.__new__"=true)
 (h61:∃ f fd,FU K "_law_cell" 61 f fd/\mg "_law_cell"=some (.ref f))
 (h62:∃ f fd,FU K "_law_pick" 62 f fd/\mg "_law_pick"=some (.ref f))
 (h63:∃ f fd,FU K "_law_row" 63 f fd/\mg "_law_row"=some (.ref f))
 (h64:∃ f fd,FU K "_law_screen" 64 f fd/\mg "_law_screen"=some (.ref f))
 (h65:∃ f fd,FU K "_law_some" 65 f fd/\mg "_law_some"=some (.ref f))
 (h66:∃ f fd,FU K "_law_goal" 66 f fd/\mg "_law_goal"=some (.ref f))
 (h6:∃ f fd,FU K "is_whole" 6 f fd/\mg "is_whole"=some (.ref f))
 (h7:∃ f fd,FU K "is_within" 7 f fd/\mg "is_within"=some (.ref f))
 (h8:∃ f fd,FU K "is_plain" 8 f fd/\mg "is_plain"=some (.ref f))
 (h12:∃ f fd,FU K "are_full_rows" 12 f fd/\mg "are_full_rows"=some (.ref f))
 (h13:∃ f fd,FU K "is_place" 13 f fd/\mg "is_place"=some (.ref f))
 (h14:∃ f fd,FU K "is_screen" 14 f fd/\mg "is_screen"=some (.ref f))
 (h15:∃ f fd,FU K "check_screen" 15 f fd/\mg "check_screen"=some (.ref f))
 (h16:∃ f fd,FU K "are_rows" 16 f fd/\mg "are_rows"=some (.ref f))
 (h17:∃ f fd,FU K "check_rows" 17 f fd/\mg "check_rows"=some (.ref f))
 (h18:∃ f fd,FU K "full_rows" 18 f fd/\mg "full_rows"=some (.ref f))
 (h19:∃ f fd,FU K "unlike_spots" 19 f fd/\mg "unlike_spots"=some (.ref f))
 (h21:∃ f fd,FU K "is_right_behind" 21 f fd/\mg "is_right_behind"=some (.ref f))
 (h22:∃ f fd,FU K "spans" 22 f fd/\mg "spans"=some (.ref f))
 (h67:∃ f fd,FU K "_law_full" 67 f fd/\mg "_law_full"=some (.ref f))
 (h27:∃ f fd,FU K "is_say" 27 f fd/\mg "is_say"=some (.ref f))
 (h28:∃ f fd,FU K "is_go" 28 f fd/\mg "is_go"=some (.ref f))
 (h29:∃ f fd,FU K "is_order" 29 f fd/\mg "is_order"=some (.ref f))
 (h30:∃ f fd,FU K "check_order" 30 f fd/\mg "check_order"=some (.ref f))
 (h31:∃ f fd,FU K "check_orders" 31 f fd/\mg "check_orders"=some (.ref f))
 (h32:∃ f fd,FU K "with_row_at_place" 32 f fd/\mg "with_row_at_place"=some (.ref f))
 (h33:∃ f fd,FU K "after_say" 33 f fd/\mg "after_say"=some (.ref f))
 (h34:∃ f fd,FU K "after_go" 34 f fd/\mg "after_go"=some (.ref f))
 (h35:∃ f fd,FU K "after_wipe" 35 f fd/\mg "after_wipe"=some (.ref f))
 (h36:∃ f fd,FU K "after_order" 36 f fd/\mg "after_order"=some (.ref f))
 (h37:∃ f fd,FU K "all_done" 37 f fd/\mg "all_done"=some (.ref f))
 (h38:∃ f fd,FU K "order_cost" 38 f fd/\mg "order_cost"=some (.ref f))
 (h39:∃ f fd,FU K "cost" 39 f fd/\mg "cost"=some (.ref f))
 (h48:∃ f fd,FU K "plan_cost" 48 f fd/\mg "plan_cost"=some (.ref f))
 (h49:∃ f fd,FU K "offer" 49 f fd/\mg "offer"=some (.ref f))
 (h50:∃ f fd,FU K "offer_with_order" 50 f fd/\mg "offer_with_order"=some (.ref f))
 (h51:∃ f fd,FU K "with_moves" 51 f fd/\mg "with_moves"=some (.ref f))
 (h52:∃ f fd,FU K "stepped_over" 52 f fd/\mg "stepped_over"=some (.ref f))
 (h53:∃ f fd,FU K "swept" 53 f fd/\mg "swept"=some (.ref f))
 (h54:∃ f fd,FU K "cheapest" 54 f fd/\mg "cheapest"=some (.ref f))
 (h55:∃ f fd,FU K "plan_from_elsewhere" 55 f fd/\mg "plan_from_elsewhere"=some (.ref f))
 (h56:∃ f fd,FU K "plan_from_place" 56 f fd/\mg "plan_from_place"=some (.ref f))
 (h57:∃ f fd,FU K "row_of_place_plan" 57 f fd/\mg "row_of_place_plan"=some (.ref f))
 (h40:∃ f fd,FU K "joined_or_none" 40 f fd/\mg "joined_or_none"=some (.ref f))
 (h41:∃ f fd,FU K "shortened" 41 f fd/\mg "shortened"=some (.ref f))
 (h58:∃ f fd,FU K "least" 58 f fd/\mg "least"=some (.ref f))
 (h59:∃ f fd,FU K "least_cost" 59 f fd/\mg "least_cost"=some (.ref f))
 (h68:∃ f fd,FU K "law" 68 f fd/\mg "law"=some (.ref f)) :
  ∃ fd:FuncData,(∀ (s:Shared) (u:Value),BindsTo s fd ⟨[u],[]⟩ [("_law_script",u)])/\∀ base:Heap,K.In base->base.Ns mainGlobals mg->FnF P w K mg base 10 fa fd ["_law_script"] BI:=by
 obtain ⟨a_ELSEWHERE,bf,bB⟩:=bf
 obtain ⟨a_ELSEWHERE_WIPED,aJ,aZ⟩:=aJ
 obtain ⟨su,eE⟩:=eE
 obtain ⟨a_HERE,dt,fN⟩:=dt
 obtain ⟨a_HERE_WIPED,bj,bI⟩:=bj
 obtain ⟨gA,bV⟩:=bV
 obtain ⟨fW,bW⟩:=bW
 obtain ⟨fo,bK⟩:=bK
 obtain ⟨a_NO_ORDERS,bP,cO⟩:=bP
 obtain ⟨oj,cP⟩:=cP
 obtain ⟨f61,d61,F61⟩:=h61
 obtain ⟨f62,d62,F62⟩:=h62
 obtain ⟨f63,d63,F63⟩:=h63
 obtain ⟨f64,d64,F64⟩:=h64
 obtain ⟨f65,d65,F65⟩:=h65
 obtain ⟨f66,d66,F66⟩:=h66
 obtain ⟨f6,d6,F6⟩:=h6
 obtain ⟨f7,d7,F7⟩:=h7
 obtain ⟨f8,d8,F8⟩:=h8
 obtain ⟨f12,d12,F12⟩:=h12
 obtain ⟨f13,d13,F13⟩:=h13
 obtain ⟨f14,d14,F14⟩:=h14
 obtain ⟨f15,d15,F15⟩:=h15
 obtain ⟨f16,d16,F16⟩:=h16
 obtain ⟨f17,d17,F17⟩:=h17
 obtain ⟨f18,d18,F18⟩:=h18
 obtain ⟨f19,d19,F19⟩:=h19
 obtain ⟨f21,d21,F21⟩:=h21
 obtain ⟨f22,d22,F22⟩:=h22
 obtain ⟨f67,d67,F67⟩:=h67
 obtain ⟨f27,d27,F27⟩:=h27
 obtain ⟨f28,d28,F28⟩:=h28
 obtain ⟨f29,d29,F29⟩:=h29
 obtain ⟨f30,d30,F30⟩:=h30
 obtain ⟨f31,d31,F31⟩:=h31
 obtain ⟨f32,d32,F32⟩:=h32
 obtain ⟨f33,d33,F33⟩:=h33
 obtain ⟨f34,d34,F34⟩:=h34
 obtain ⟨f35,d35,F35⟩:=h35
 obtain ⟨f36,d36,F36⟩:=h36
 obtain ⟨f37,d37,F37⟩:=h37
 obtain ⟨f38,d38,F38⟩:=h38
 obtain ⟨f39,d39,F39⟩:=h39
 obtain ⟨f48,d48,F48⟩:=h48
 obtain ⟨f49,d49,F49⟩:=h49
 obtain ⟨f50,d50,F50⟩:=h50
 obtain ⟨f51,d51,F51⟩:=h51
 obtain ⟨f52,d52,F52⟩:=h52
 obtain ⟨f53,d53,F53⟩:=h53
 obtain ⟨f54,d54,F54⟩:=h54
 obtain ⟨f55,d55,F55⟩:=h55
 obtain ⟨f56,d56,F56⟩:=h56
 obtain ⟨f57,d57,F57⟩:=h57
 obtain ⟨f40,d40,F40⟩:=h40
 obtain ⟨f41,d41,F41⟩:=h41
 obtain ⟨f58,d58,F58⟩:=h58
 obtain ⟨f59,d59,F59⟩:=h59
 obtain ⟨f68,d68,F68⟩:=h68
 have e:fa=f68:=by
  have:=hfa.symm.trans F68.2
  injection this with this
  injection this
 subst e
 refine ⟨d68,fun s u=>?_,fun base kb nb=>?_⟩
 ·obtain ⟨oc,od,kV,doc,pm,an,cdv,ct,osl,rfl,lk,hcd⟩:=F68.1.ex
  exact .of_eq rfl
 ·have fL:=Ad (x:="NoOrder") kb nb oq mD
  have iL:=Ad (x:="NoRoom") kb nb ql qu
  have ef:=Ad (x:="NoScreen") kb nb kI km
  have k61:=F61.1.callee F61.2 ((uV (P:=P) (w:=w) (base:=base) br F61.1).to (tfr (F:=CT))) (by walk_at "2")
  have k62:=F62.1.callee F62.2 ((vf k61 F62.1).to (tfr (F:=fD))) (by walk_at "3")
  have k63:=F63.1.callee F63.2 ((yz cC k62 F63.1).to (tfr (F:=Dz))) (by walk_at "3")
  have k64:=F64.1.callee F64.2 ((rf cC bZ k63 (k62.mono 3) F64.1).to (tfr (F:=CZ))) (by walk_at "4")
  have k65:=F65.1.callee F65.2 ((uX (k62.mono 4) k64 F65.1).to (tfr (F:=ya))) (by walk_at "2")
  have k66:=F66.1.callee F66.2 ((uN bN br (k62.mono 3) k63 F66.1).to vn) (by walk_at "3")
  have k6:=F6.1.callee F6.2 ((vx (P:=P) (w:=w) (base:=base) sf vc aB F6.1).to uh) (by walk_at "1")
  have k7:=F7.1.callee F7.2 ((tY k6 F7.1).to sX) (by walk_at "3")
  have k8:=F8.1.callee F8.2 ((uL (P:=P) (w:=w) (base:=base) mx aB Aj F8.1).to uM) (by walk_at "1")
  have k12:=F12.1.callee F12.2 ((lJ mx aB br bZ bV k8 F12.1).to lL) (by walk_at "2")
  have k13:=F13.1.callee F13.2 ((uy aB br bZ k7 F13.1).to uJ) (by walk_at "3")
  have k14:=F14.1.callee F14.2 ((tP aB br bZ bK (k7.mono 3) (k12.mono 3) k13 F14.1).to rT) (by walk_at "1")
  have k15:=F15.1.callee F15.2 ((oN ef k14 F15.1).to mI) (by walk_at "1")
  have k16:=F16.1.callee F16.2 ((uU mx aB br ir k15 (k8.mono 5) F16.1).to ur) (by walk_at "2")
  have k17:=F17.1.callee F17.2 ((qc ef k16 F17.1).to rg) (by walk_at "2")
  have k18:=F18.1.callee F18.2 ((rR (P:=P) (w:=w) (base:=base) br F18.1).to rN) (by walk_at "2")
  have k19:=F19.1.callee F19.2 ((oA bN cC k17 (k18.mono 7) F19.1).to ox) (by walk_at "2")
  have k21:=F21.1.callee F21.2 ((jU (P:=P) (w:=w) (base:=base) F21.1).to jX) (by walk_at "2")
  have k22:=F22.1.callee F22.2 ((Df br k19 (k21.mono 8) F22.1).to Dc) (by walk_at "2")
  have k67:=F67.1.callee F67.2 ((vU (P:=P) (w:=w) (base:=base) br bZ F67.1).to vQ) (by walk_at "2")
  have k27:=F27.1.callee F27.2 ((zW br bW k8 F27.1).to (tfr (F:=JV))) (by walk_at "1")
  have k28:=F28.1.callee F28.2 ((C3 br bV bK k7 F28.1).to (tfr (F:=goG))) (by walk_at "1")
  have k29:=F29.1.callee F29.2 ((uR aB bZ (k27.mono 3) k28 F29.1).to (tfr (F:=Lz))) (by walk_at "1")
  have k30:=F30.1.callee F30.2 ((oV fL k29 F30.1).to (tfr (F:=ckG _))) (by walk_at "1")
  have k31:=F31.1.callee F31.2 ((nA aB ir fL k30 F31.1).to (tfr (F:=FV _))) (by walk_at "1")
  have k32:=F32.1.callee F32.2 ((iT (P:=P) (w:=w) (base:=base) F32.1).to (tfr (F:=wrG))) (by walk_at "3")
  have k33:=F33.1.callee F33.2 ((sw br iL k32 F33.1).to (tfr (F:=asG _))) (by walk_at "2")
  have k34:=F34.1.callee F34.2 ((vA (P:=P) (w:=w) (base:=base) br iL F34.1).to (tfr (F:=agG _))) (by walk_at "3")
  have k35:=F35.1.callee F35.2 ((pW k32 F35.1).to (tfr (F:=awG))) (by walk_at "1")
  have k36:=F36.1.callee F36.2 ((pd k33 (k34.mono 2) k35 F36.1).to (tfr (F:=aoG _))) (by walk_at "2")
  have k37:=F37.1.callee F37.2 ((vH (k15.mono 6) k31 (k36.mono 6) F37.1).to (tfr (F:=adG _ _ _))) (by walk_at "2")
  have k38:=F38.1.callee F38.2 ((qm (P:=P) (w:=w) (base:=base) br eE cP F38.1).to (tfr (F:=ocG))) (by walk_at "1")
  have k39:=F39.1.callee F39.2 ((ES An k31 (k38.mono 6) F39.1).to (tfr (F:=coG _))) (by walk_at "1")
  have k48:=F48.1.callee F48.2 ((sH (P:=P) (w:=w) (base:=base) F48.1).to (tfr (F:=pcF))) (by walk_at "1")
  have k49:=Bv F49.1 F49.2 (C1 (P:=P) (w:=w) (mg:=mg) (base:=base) k48 B9 F49.1) (by walk_at "3") (n:=2) rfl
  have k50:=Bv F50.1 F50.2 (jo (P:=P) (w:=w) (mg:=mg) (base:=base) (k38.mono 2) k49 ja F50.1) (by walk_at "4") (n:=3) rfl
  have k51:=F51.1.callee F51.2 (qg (P:=P) (w:=w) (base:=base) sB bf bB dt fN bj bI aJ aZ k50 qv F51.1) (by walk_at "3")
  have k52:=F52.1.callee F52.2 (my (P:=P) (w:=w) (base:=base) k50 (k49.mono 3) ny F52.1) (by walk_at "3")
  have k53:=F53.1.callee F53.2 ((BF br cC k51 k52 F53.1).to (tfr (F:=swF))) (by walk_at "5")
  have k54:=F54.1.callee F54.2 ((uF (P:=P) (w:=w) (base:=base) sS k48 F54.1).to (tfr (F:=chF))) (by walk_at "2")
  have k55:=F55.1.callee F55.2 ((gM bf bB bP cO bj bI aJ aZ dt fN k53 (k54.mono 5) F55.1).to (tfr (F:=peF))) (by walk_at "3")
  have k56:=F56.1.callee F56.2 ((jH dt fN bP cO bj bI aJ aZ bf bB k53 (k54.mono 5) F56.1).to (tfr (F:=ppF))) (by walk_at "4")
  have k57:=F57.1.callee F57.2 ((iV sS k55 k56 (k48.mono 5) F57.1).to (tfr (F:=rpF))) (by walk_at "4")
  have k40:=F40.1.callee F40.2 ((kh (P:=P) (w:=w) (base:=base) br bW F40.1).to (tfr (F:=jnG))) (by walk_at "2")
  have k41:=F41.1.callee F41.2 ((rB br k31 (k40.mono 6) F41.1).to (tfr (F:=shG _))) (by walk_at "1")
  have k58:=F58.1.callee F58.2 ((Cg bN ir k17 (k18.mono 7) k57 (k55.mono 7) k41 F58.1).to (tfr (F:=leF _))) (by walk_at "2")
  have k59:=F59.1.callee F59.2 ((qY k58 (k39.mono 8) F59.1).to (tfr (F:=pL _))) (by walk_at "2")
  exact (Ic cC Aw (k65.mono 9) (k66.mono 9) k22 (k67.mono 9) (k19.mono 9) (k37.mono 9) (k39.mono 9) k59 F68.1).to (Hf KW)
end G76
namespace PySem.W.Fast
theorem tw3718262683417226623:True:=⟨⟩
theorem tw5949805795962971323:True:=⟨⟩
theorem tw574674812144375182:True:=⟨⟩
theorem tw8024188571375859812:True:=⟨⟩
theorem tw7134284320810628073:True:=⟨⟩
theorem tw3920156099814630986:True:=⟨⟩
theorem tw15628567124325714987:True:=⟨⟩
theorem tw3845103798503782000:True:=⟨⟩
theorem tw2106341166398732944:True:=⟨⟩
theorem tw3603369709478412817:True:=⟨⟩
theorem tw2162443676907322674:True:=⟨⟩
theorem tw10134078078535584146:True:=⟨⟩
theorem tw403392619641464179:True:=⟨⟩
theorem tw17946206136094931188:True:=⟨⟩
theorem tw12923940049040447895:True:=⟨⟩
end PySem.W.Fast
open PySem PySem.W PyProof.Rows
set_option maxRecDepth 100000 in
set_option maxHeartbeats 0 in
theorem PySem.Challenge.cw_screenlines_k76_whole_spans_holds : PySem.Challenge.rw_screenlines_k76_whole_spans.Holds := by
 w_on;o_law;k_head;(case hw=>w_witness2)
 k_fill
 refine Q.M0 (l:=PySem.Challenge.rw_screenlines_k76_whole_spans) (L:=10) ⟨rfl,by decide,by decide⟩ rfl rfl (fun w h Y=>PySem.W.kIn_of Y) ?F
 case F=>
  intro w mg fa h KX G hmg
  have mx:mg "all"=none:=PySem.W.mg_none_of KX G (by k_is)
  have sf:mg "bool"=none:=PySem.W.mg_none_of KX G (by k_is)
  have sB:mg "dict"=none:=PySem.W.mg_none_of KX G (by k_is)
  have bN:mg "enumerate"=none:=PySem.W.mg_none_of KX G (by k_is)
  have vc:mg "int"=none:=PySem.W.mg_none_of KX G (by k_is)
  have aB:mg "isinstance"=none:=PySem.W.mg_none_of KX G (by k_is)
  have br:mg "len"=none:=PySem.W.mg_none_of KX G (by k_is)
  have ir:mg "list"=none:=PySem.W.mg_none_of KX G (by k_is)
  have sS:mg "min"=none:=PySem.W.mg_none_of KX G (by k_is)
  have cC:mg "range"=none:=PySem.W.mg_none_of KX G (by k_is)
  have Aj:mg "str"=none:=PySem.W.mg_none_of KX G (by k_is)
  have An:mg "sum"=none:=PySem.W.mg_none_of KX G (by k_is)
  have bZ:mg "tuple"=none:=PySem.W.mg_none_of KX G (by k_is)
  have Aw:mg "zip"=none:=PySem.W.mg_none_of KX G (by k_is)
  have bf:=Q.oO (x:="ELSEWHERE") KX G (by k_is) (Q.kA (vs:=[L2.V.bl false,L2.V.bl false]) (by k_is) (by decide) (.cons rfl (.cons rfl .nil)) (fun _=>(.cons (.bl _) (.cons (.bl _) .nil))))
  have aJ:=Q.oO (x:="ELSEWHERE_WIPED") KX G (by k_is) (Q.kA (vs:=[L2.V.bl false,L2.V.bl true]) (by k_is) (by decide) (.cons rfl (.cons rfl .nil)) (fun _=>(.cons (.bl _) (.cons (.bl _) .nil))))
  have eE:∃ t,mg "GO_COST"=some (.int 2 t):=⟨_,PySem.W.mg_of KX G (by k_is)⟩
  have dt:=Q.oO (x:="HERE") KX G (by k_is) (Q.kA (vs:=[L2.V.bl true,L2.V.bl false]) (by k_is) (by decide) (.cons rfl (.cons rfl .nil)) (fun _=>(.cons (.bl _) (.cons (.bl _) .nil))))
  have bj:=Q.oO (x:="HERE_WIPED") KX G (by k_is) (Q.kA (vs:=[L2.V.bl true,L2.V.bl true]) (by k_is) (by decide) (.cons rfl (.cons rfl .nil)) (fun _=>(.cons (.bl _) (.cons (.bl _) .nil))))
  have bV:∃ t,mg "MOST_ROWS"=some (.int 12 t):=⟨_,PySem.W.mg_of KX G (by k_is)⟩
  have bW:∃ t,mg "MOST_SAID"=some (.int 40 t):=⟨_,PySem.W.mg_of KX G (by k_is)⟩
  have bK:∃ t,mg "MOST_WIDTH"=some (.int 40 t):=⟨_,PySem.W.mg_of KX G (by k_is)⟩
  have bP:=Q.oO (x:="NO_ORDERS") KX G (by k_is) (Q.kA (vs:=[L2.V.int 0,L2.V.ref _]) (by k_is) (by decide) (.cons ⟨_,rfl⟩ (.cons rfl .nil)) (fun _=>(.cons (.int _) (.cons (Q.kA (vs:=[]) (by k_is) (by decide) .nil (fun _=>.nil) _) .nil))))
  have cP:∃ t,mg "WIPE_COST"=some (.int 1 t):=⟨_,PySem.W.mg_of KX G (by k_is)⟩
  have h61:=Q.ba (x:="_law_cell") (st:=G76.top 61) KX G (by k_is) (by k_is) (by k_is) (by k_is)
  have h62:=Q.ba (x:="_law_pick") (st:=G76.top 62) KX G (by k_is) (by k_is) (by k_is) (by k_is)
  have h63:=Q.ba (x:="_law_row") (st:=G76.top 63) KX G (by k_is) (by k_is) (by k_is) (by k_is)
  have h64:=Q.ba (x:="_law_screen") (st:=G76.top 64) KX G (by k_is) (by k_is) (by k_is) (by k_is)
  have h65:=Q.ba (x:="_law_some") (st:=G76.top 65) KX G (by k_is) (by k_is) (by k_is) (by k_is)
  have h66:=Q.ba (x:="_law_goal") (st:=G76.top 66) KX G (by k_is) (by k_is) (by k_is) (by k_is)
  have h6:=Q.ba (x:="is_whole") (st:=G76.top 6) KX G (by k_is) (by k_is) (by k_is) (by k_is)
  have h7:=Q.ba (x:="is_within") (st:=G76.top 7) KX G (by k_is) (by k_is) (by k_is) (by k_is)
  have h8:=Q.ba (x:="is_plain") (st:=G76.top 8) KX G (by k_is) (by k_is) (by k_is) (by k_is)
  have h12:=Q.ba (x:="are_full_rows") (st:=G76.top 12) KX G (by k_is) (by k_is) (by k_is) (by k_is)
  have h13:=Q.ba (x:="is_place") (st:=G76.top 13) KX G (by k_is) (by k_is) (by k_is) (by k_is)
  have h14:=Q.ba (x:="is_screen") (st:=G76.top 14) KX G (by k_is) (by k_is) (by k_is) (by k_is)
  have h15:=Q.ba (x:="check_screen") (st:=G76.top 15) KX G (by k_is) (by k_is) (by k_is) (by k_is)
  have h16:=Q.ba (x:="are_rows") (st:=G76.top 16) KX G (by k_is) (by k_is) (by k_is) (by k_is)
  have h17:=Q.ba (x:="check_rows") (st:=G76.top 17) KX G (by k_is) (by k_is) (by k_is) (by k_is)
  have h18:=Q.ba (x:="full_rows") (st:=G76.top 18) KX G (by k_is) (by k_is) (by k_is) (by k_is)
  have h19:=Q.ba (x:="unlike_spots") (st:=G76.top 19) KX G (by k_is) (by k_is) (by k_is) (by k_is)
  have h21:=Q.ba (x:="is_right_behind") (st:=G76.top 21) KX G (by k_is) (by k_is) (by k_is) (by k_is)
  have h22:=Q.ba (x:="spans") (st:=G76.top 22) KX G (by k_is) (by k_is) (by k_is) (by k_is)
  have h67:=Q.ba (x:="_law_full") (st:=G76.top 67) KX G (by k_is) (by k_is) (by k_is) (by k_is)
  have h27:=Q.ba (x:="is_say") (st:=G76.top 27) KX G (by k_is) (by k_is) (by k_is) (by k_is)
  have h28:=Q.ba (x:="is_go") (st:=G76.top 28) KX G (by k_is) (by k_is) (by k_is) (by k_is)
  have h29:=Q.ba (x:="is_order") (st:=G76.top 29) KX G (by k_is) (by k_is) (by k_is) (by k_is)
  have h30:=Q.ba (x:="check_order") (st:=G76.top 30) KX G (by k_is) (by k_is) (by k_is) (by k_is)
  have h31:=Q.ba (x:="check_orders") (st:=G76.top 31) KX G (by k_is) (by k_is) (by k_is) (by k_is)
  have h32:=Q.ba (x:="with_row_at_place") (st:=G76.top 32) KX G (by k_is) (by k_is) (by k_is) (by k_is)
  have h33:=Q.ba (x:="after_say") (st:=G76.top 33) KX G (by k_is) (by k_is) (by k_is) (by k_is)
  have h34:=Q.ba (x:="after_go") (st:=G76.top 34) KX G (by k_is) (by k_is) (by k_is) (by k_is)
  have h35:=Q.ba (x:="after_wipe") (st:=G76.top 35) KX G (by k_is) (by k_is) (by k_is) (by k_is)
  have h36:=Q.ba (x:="after_order") (st:=G76.top 36) KX G (by k_is) (by k_is) (by k_is) (by k_is)
  have h37:=Q.ba (x:="all_done") (st:=G76.top 37) KX G (by k_is) (by k_is) (by k_is) (by k_is)
  have h38:=Q.ba (x:="order_cost") (st:=G76.top 38) KX G (by k_is) (by k_is) (by k_is) (by k_is)
  have h39:=Q.ba (x:="cost") (st:=G76.top 39) KX G (by k_is) (by k_is) (by k_is) (by k_is)
  have h48:=Q.ba (x:="plan_cost") (st:=G76.top 48) KX G (by k_is) (by k_is) (by k_is) (by k_is)
  have h49:=Q.ba (x:="offer") (st:=G76.top 49) KX G (by k_is) (by k_is) (by k_is) (by k_is)
  have h50:=Q.ba (x:="offer_with_order") (st:=G76.top 50) KX G (by k_is) (by k_is) (by k_is) (by k_is)
  have h51:=Q.ba (x:="with_moves") (st:=G76.top 51) KX G (by k_is) (by k_is) (by k_is) (by k_is)
  have h52:=Q.ba (x:="stepped_over") (st:=G76.top 52) KX G (by k_is) (by k_is) (by k_is) (by k_is)
  have h53:=Q.ba (x:="swept") (st:=G76.top 53) KX G (by k_is) (by k_is) (by k_is) (by k_is)
  have h54:=Q.ba (x:="cheapest") (st:=G76.top 54) KX G (by k_is) (by k_is) (by k_is) (by k_is)
  have h55:=Q.ba (x:="plan_from_elsewhere") (st:=G76.top 55) KX G (by k_is) (by k_is) (by k_is) (by k_is)
  have h56:=Q.ba (x:="plan_from_place") (st:=G76.top 56) KX G (by k_is) (by k_is) (by k_is) (by k_is)
  have h57:=Q.ba (x:="row_of_place_plan") (st:=G76.top 57) KX G (by k_is) (by k_is) (by k_is) (by k_is)
  have h40:=Q.ba (x:="joined_or_none") (st:=G76.top 40) KX G (by k_is) (by k_is) (by k_is) (by k_is)
  have h41:=Q.ba (x:="shortened") (st:=G76.top 41) KX G (by k_is) (by k_is) (by k_is) (by k_is)
  have h58:=Q.ba (x:="least") (st:=G76.top 58) KX G (by k_is) (by k_is) (by k_is) (by k_is)
  have h59:=Q.ba (x:="least_cost") (st:=G76.top 59) KX G (by k_is) (by k_is) (by k_is) (by k_is)
  have h68:=Q.ba (x:="law") (st:=G76.top 68) KX G (by k_is) (by k_is) (by k_is) (by k_is)
  refine' G76.Jb (P:=_) (w:=w) (K:=L2.KOf KX) hmg mx sf sB bN vc aB br ir sS cC Aj An bZ Aw bf aJ eE dt bj bV bW bK bP cP ?oq ?mD ?ql ?qu ?kI ?km h61 h62 h63 h64 h65 h66 h6 h7 h8 h12 h13 h14 h15 h16 h17 h18 h19 h21 h22 h67 h27 h28 h29 h30 h31 h32 h33 h34 h35 h36 h37 h38 h39 h48 h49 h50 h51 h52 h53 h54 h55 h56 h57 h40 h41 h58 h59 h68
  all_goals (try dsimp only [L2.KOf])
  (case oq=>k_is)
  (case ql=>k_is)
  (case kI=>k_is)
  (case mD=>k_exc)
  (case qu=>k_exc)
  (case km=>k_exc)
end
end
