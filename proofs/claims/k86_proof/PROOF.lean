import PyProof.Rows.All
import Wide.All
import OpenK.AllK
import Wide.FinOn
import Lean
import PyProof.EqAt
import PyProof.EqKinds
import PyProof.TupleCall
import PyProof.NeKinds
import PyProof.Draws
import KE.KTupSum
import KE.KIntText
import PyProof.Rows.Range3
import PyProof.Rows.FStr
import PyProof.StrCalls2
import PyProof.StrLawsTight
import PyProof.StrLawsIn
import PyProof.StrCalls
import KE.KLam
import KE.KMinKey
import PyProof.Rows.RuleN_abs
import PyProof.Rows.StrCut
import PySem.Challenge.RW_screenlines_k86_whole_pad_twins
set_option Elab.async false
set_option linter.all false
set_option maxRecDepth 100000
noncomputable section
variable {us its:List Value} {a b it C f Pt Cs af ar ak aq aI aQ aP ah ae:Addr} {P:Program} {h h':Heap} {u cd doc pm cdv oc:Value} {p pos py:Pos} {t' i j k n wd:Nat} {ch fp rs:List Addr} {x y qual name y0 y1 y2 y3 y4:Str} {E:Value->Shared->Prop} {s' s:Shared} {pins:List (Addr×Obj)} {es:List Expr} {tg iter tgt:Expr} {body:List Stmt} {mA:Str->Option Value} {fd:FuncData} {ps loose:List Str} {scope:Scope} {params:Arguments} {an od:Option Addr} {osl:Array (Option Value)} {st:Stmt} {ix is:List Nat} {fz:Bool} {ts:List (Str×Addr)}
namespace L2
open PySem PySem.Spec PyProof.Rows
abbrev Key:=Sum Int Str
def Ec:Key->Value->Bool
 | .inl k,v=>Value.isInt k v
 | .inr x,v=>Value.isStrOf x v
def Jd (w:World):Key->Int
 | .inl k=>hashInt k
 | .inr x=>hashStr w x
theorem bX:∀ {k:Key} {v:Value},Ec k v=true->(∃ i t,k=Sum.inl i/\v=Value.int i t)\/(∃ x t,k=Sum.inr x/\v=Value.str x t)
 | .inl i,v,h=>by
  obtain ⟨t,e⟩:=Value.isInt_shape (k:=i) (v:=v) h
  exact .inl ⟨i,t,rfl,e⟩
 | .inr x,v,h=>by
  obtain ⟨t,e⟩:=Value.isStrOf_shape (x:=x) (v:=v) h
  exact .inr ⟨x,t,rfl,e⟩
theorem FG (a b:Int):decide ((Sum.inl a:Key)=Sum.inl b)=(a==b):=by
 by_cases e:a=b
 ·subst e;simp
 ·have h : ¬ (Sum.inl a:Key)=Sum.inl b:=fun q=>e (Sum.inl.inj q)
  rw [decide_eq_false h]
  exact (beq_eq_false_iff_ne.mpr e).symm
theorem Eg (a b:Str):decide ((Sum.inr a:Key)=Sum.inr b)=decide (a=b):=by
 by_cases e:a=b
 ·subst e;simp
 ·have h : ¬ (Sum.inr a:Key)=Sum.inr b:=fun q=>e (Sum.inr.inj q)
  rw [decide_eq_false h,decide_eq_false e]
theorem E9 (a:Int) (b:Str):decide ((Sum.inl a:Key)=Sum.inr b)=false:=decide_eq_false (fun q=>nomatch q)
theorem F0 (a:Str) (b:Int):decide ((Sum.inr a:Key)=Sum.inl b)=false:=decide_eq_false (fun q=>nomatch q)
noncomputable def sV (prog:Program) (w:World):PySem.KeyKind prog w Key where
 is:=Ec
 hash:=Jd w
 inj:=fun v a b ha hb=>by
  rcases bX ha with ⟨i,t,rfl,rfl⟩|⟨x,t,rfl,rfl⟩
  ·rcases bX hb with ⟨j,u,rfl,e⟩|⟨y,u,rfl,e⟩
   ·injection e with e1 _;rw [e1]
   ·exact nomatch e
  ·rcases bX hb with ⟨j,u,rfl,e⟩|⟨y,u,rfl,e⟩
   ·exact nomatch e
   ·injection e with e1 _;rw [e1]
 byValue:=fun k v h=>by
  rcases bX h with ⟨i,t,rfl,rfl⟩|⟨x,t,rfl,rfl⟩ <;> rfl
 pyHash:=fun hv h=>by
  rcases bX hv with ⟨i,t,rfl,rfl⟩|⟨x,t,rfl,rfl⟩
  ·exact wpAny_pyHash_int h
  ·exact wpAny_pyHash_str h
 eqBool:=fun hu hv h=>by
  rcases bX hu with ⟨i,t,rfl,rfl⟩|⟨x,t,rfl,rfl⟩
  ·rcases bX hv with ⟨j,u,rfl,rfl⟩|⟨y,u,rfl,rfl⟩
   ·rw [FG] at h;exact wpAny_eqBool_int h
   ·rw [E9] at h;exact SeqAt.EqAt.int_str i t y u _ _ _ _ h
  ·rcases bX hv with ⟨j,u,rfl,rfl⟩|⟨y,u,rfl,rfl⟩
   ·rw [F0] at h;exact SeqAt.EqAt.str_int x t j u _ _ _ _ h
   ·rw [Eg] at h;exact wpAny_eqBool_str h
 «strs»:=fun k x t v h=>by
  rcases bX h with ⟨i,u,rfl,e⟩|⟨y,u,rfl,e⟩
  ·exact nomatch e
  ·injection e with e1 _
   subst e1
   cases v <;> rfl
end L2
namespace L2
open PySem PySem.Spec PyProof.Rows
inductive V where
 | non|bl (b:Bool)|int (i:Int)|str (x:Str)|byt (b:Array UInt8)|flt (b:UInt64)|ref (a:Addr)|ty (n:String)
 deriving DecidableEq
noncomputable def RelV:V->Value->Prop
 | .non,u=>u=Value.none
 | .bl b,u=>u=Value.bool b
 | .int i,u=>∃ t,u=Value.int i t
 | .str x,u=>∃ t,u=Value.str x t
 | .byt b,u=>∃ t,u=Value.bytes b t
 | .flt b,u=>∃ t,u=Value.float b t
 | .ref a,u=>u=Value.ref a
 | .ty n,u=>u=Value.type n
abbrev Vals:List V->List Value->Prop:=Paired RelV
theorem Vals.length {xs:List V} (r:Vals xs us):xs.length=us.length:=Paired.length r
theorem Vals.get:∀ {xs:List V} {us:List Value} {i:Nat} {x:V},Vals xs us->xs[i]?=some x->∃ u,us[i]?=some u/\RelV x u
 | _,_,_,_,.nil,e=>by simp at e
 | _,_,0,_,.cons r _,e=>by simp at e;subst e;exact ⟨_,rfl,r⟩
 | _,_,i+1,x,.cons _ t,e=>by
  obtain ⟨u,h1,h2⟩:=Vals.get (i:=i) (x:=x) t (by simpa using e)
  exact ⟨u,by simpa using h1,h2⟩
theorem Vals.append:∀ {xs ys:List V} {us ws:List Value},Vals xs us->Vals ys ws->Vals (xs++ys) (us++ws)
 | _,_,_,_,.nil,s=>s
 | _,_,_,_,.cons r t,s=>.cons r (Vals.append t s)
theorem Vals.take:∀ {xs:List V} {us:List Value} (n:Nat),Vals xs us->Vals (xs.take n) (us.take n)
 | _,_,0,_=>.nil
 | _,_,_+1,.nil=>.nil
 | _,_,n+1,.cons r t=>.cons r (Vals.take n t)
theorem Vals.drop:∀ {xs:List V} {us:List Value} (n:Nat),Vals xs us->Vals (xs.drop n) (us.drop n)
 | _,_,0,r=>r
 | _,_,_+1,.nil=>.nil
 | _,_,n+1,.cons _ t=>Vals.drop n t
def RelO:Option V->Option Value->Prop
 | some v,some u=>RelV v u
 | none,none=>True
 | _,_=>False
def KV {κ:Type}:List (κ×V)->List (κ×Value)->Prop:=Paired fun (p:κ×V) (q:κ×Value)=>p.1=q.1/\RelV p.2 q.2
def kV:Key->V
 | .inl i=>.int i
 | .inr x=>.str x
inductive HO where
  /-- a list -/
  | lst (xs : List V)
  /-- a tuple (never changes) -/
  | tup (xs : List V)
  /-- a dict whose keys are ints and texts; one whose keys are tuples of ints and texts (the empty one is both) -/
  | dK (kvs : List (Key × V)) | dT (kvs : List (List Key × V))
  /-- a set of ints: its members, its size -/
  | set (S : Int -> Bool) (n : Nat)
  /-- an instance of the class at C, its dict at dx, its attributes -/
  | ins (C dx : Addr) (fs : List (Str × V))
  /-- the dict of the instance at x -/
  | own (x : Addr)
  /-- the dict of an exception -/
  | xd (fs : List (Str × V))
  /-- a bound method, f of x -/
  | met (f x : Addr)
  /-- a range object lo, lo + 1, .. below hi -/
  | rng (lo hi : Int)
  /-- a thing that is known to the object (the script; a dict while a loop walks it): read, never written while it is so -/
  | frz (o : Obj) (u : HO)
  /-- a code object's table -/
  | tbl (ps : Array Value)
  /-- any other thing, by what is true of its one object (a def of one's own: SetO a S n := HO.ext fun h => ..) -/
  | ext (φ : Heap -> Prop)

abbrev Hp:=Addr->Option HO
def upd (H:Hp) (a:Addr) (o:HO):Hp:=fun b=>if b=a then some o else H b
theorem aX {H:Hp} {o:HO}:upd H a o a=some o:=by unfold upd;rw [if_pos rfl]
theorem aL {H:Hp} {o:HO} (h:b≠a):upd H a o b=H b:=by unfold upd;rw [if_neg h]
theorem aO {H:Hp} {o:HO} (h:H a=some o) (h':H b=none):a≠b:=by
 intro e;subst e;rw [h] at h';cases h'
def yD (ps:Array Value):Str:=match ps.toList with
 | .str q _::_=>q
 | _=>Str.empty
section
variable (P:Program) (w:World)
noncomputable def ObjOk (H:Hp) (h:Heap) (a:Addr):HO->Prop
 | .lst xs=>xs.length<=sizeLine/\∃ (its:List Value) (n:Nat),Vals xs its/\h.get? a=some { cls:=.type "list",data:=.seq its.toArray n }
 | .tup xs=>xs.length<=sizeLine/\∃ its:List Value,Vals xs its/\IsTup h a its.toArray
 | .dK kvs=>kvs.length<=sizeLine/\(a==sysModules)=false/\∃ vs,KV kvs vs/\h.DictOf (sV P w) a vs
 | .dT kvs=>kvs.length<=sizeLine/\(a==sysModules)=false/\∃ xs:List (List Key×Addr×Value),
   Paired (fun (p:List Key×V) (q:List Key×Addr×Value)=>p.1=q.1/\H q.2.1=some (.tup (p.1.map kV))/\RelV p.2 q.2.2) kvs xs/\
   ∃ o es ep,h.get? a=some o/\o.ExactDict/\o.data=.dict es ep/\es.toList=xs.map (entryOfKey (tupleKind (sV P w)))/\(xs.map (·.1)).Nodup
 | .set S n=>h.SetOf (intKind P w) a S n
 | .ins C dx fs=>H dx=some (.own a)/\fs.length<=1000/\dx≠a/\h.get? a=some (W.instObj C dx)/\
   ∃ mA,h.Ns1 dx mA/\(∀ f,RelO (fs.lookup f) (mA f))/\PySem.Within mA (fs.map (·.1))
 | .own _=>∃ o,h.get? a=some o
 | .xd fs=>∃ mA,h.Ns1 a mA/\∀ f,RelO (fs.lookup f) (mA f)
 | .rng lo hi=>∃ t u v,h.get? a=some { cls:=.type "range",data:=.fields #[.int lo t,.int hi u,.int 1 v] }
 | .frz o u=>h.get? a=some o/\ObjOk H h a u
 | .tbl ps=>∃ qs:Array Value,h.get? a=some { cls:=.none,data:=.fields qs }/\TriplesOk qs.toList/\∀ (pos:Pos) (cv:Value),codeAmong pos qs.toList=some cv->∃ c o vs t,cv=.ref c/\H c=some (.frz o (.own a))/\o.data=.fields vs/\vs[1]?=some (.str (yD ps) t)
 | .met f x=>h.get? a=some (W.methodObj (.ref f) (.ref x))
 | .ext φ=>φ h/\(∃ o,h.get? a=some o)/\∀ h1 h2:Heap,φ h1->(∀ o,h1.get? a=some o->h2.get? a=some o)->φ h2
def HOk (H:Hp) (h:Heap):Prop:=∀ a o,H a=some o->ObjOk P w H h a o
end
section
variable {P:Program} {w:World} {H H':Hp} {h h':Heap} {a:Addr} {o:HO}
theorem ObjOk.lt (x:ObjOk P w H h a o):a<h.objs.size:=by
 cases o with
 | lst xs=>obtain ⟨_,_,_,_,e⟩:=x;exact Heap.lt_size e
 | tup xs=>obtain ⟨_,_,_,p⟩:=x;exact p.lt
 | dK kvs=>obtain ⟨_,_,_,_,o,_,_,e,_⟩:=x;exact Heap.lt_size e
 | dT kvs=>obtain ⟨_,_,_,_,o,_,_,e,_⟩:=x;exact Heap.lt_size e
 | set S n=>obtain ⟨o,_,_,_,e,_⟩:=x;exact Heap.lt_size e
 | ins C dx fs=>obtain ⟨_,_,_,e,_⟩:=x;exact Heap.lt_size e
 | own y=>obtain ⟨_,e⟩:=x;exact Heap.lt_size e
 | xd fs=>obtain ⟨_,⟨_,_,_,e,_⟩,_⟩:=x;exact Heap.lt_size e
 | rng lo hi=>obtain ⟨_,_,_,e⟩:=x;exact Heap.lt_size e
 | frz ob u=>obtain ⟨e,_⟩:=x;exact Heap.lt_size e
 | tbl ps=>obtain ⟨_,e,_⟩:=x;exact Heap.lt_size e
 | met f y=>exact Heap.lt_size (show h.get? a=some _ from x)
 | ext φ=>obtain ⟨_,⟨_,e⟩,_⟩:=x;exact Heap.lt_size e
theorem Paired.mapP {α β:Type} {F G:α->β->Prop}:∀ {N5:List α} {N6:List β},Paired F N5 N6->(∀ a b,F a b->G a b)->Paired G N5 N6
 | _,_,.nil,_=>.nil
 | _,_,.cons r t,f=>.cons (f _ _ r) (Paired.mapP t f)
theorem ObjOk.stay (x:ObjOk P w H h a o) (k:∀ b u,(b=a\/H b=some (.own a))->h.get? b=some u->h'.get? b=some u)
 (ho:∀ b,H b=some (.own a)->H' b=some (.own a)) (ht:∀ b xs,H b=some (.tup xs)->H' b=some (.tup xs)) (hz:∀ b o u,H b=some (.frz o u)->H' b=some (.frz o u):=by exact fun _ _ _ q=>q):ObjOk P w H' h' a o:=by
 induction o with
 | lst xs=>obtain ⟨z,its,n,r,e⟩:=x;exact ⟨z,its,n,r,k _ _ (.inl rfl) e⟩
 | tup xs=>obtain ⟨z,its,r,ob,e,c⟩:=x;exact ⟨z,its,r,ob,k _ _ (.inl rfl) e,c⟩
 | dK kvs=>obtain ⟨z,y,vs,r,ob,es,ep,e,c⟩:=x;exact ⟨z,y,vs,r,ob,es,ep,k _ _ (.inl rfl) e,c⟩
 | dT kvs=>
  obtain ⟨z,y,xs,r,ob,es,ep,e,c⟩:=x
  exact ⟨z,y,xs,Paired.mapP r fun p q z=>⟨z.1,ht _ _ z.2.1,z.2.2⟩,ob,es,ep,k _ _ (.inl rfl) e,c⟩
 | set S n=>obtain ⟨ob,es,ep,t,e,c⟩:=x;exact ⟨ob,es,ep,t,k _ _ (.inl rfl) e,c⟩
 | ins C dx fs=>
  obtain ⟨d,z,ne,e,mA,⟨od,es,ep,e2,c⟩,r⟩:=x
  exact ⟨ho _ d,z,ne,k _ _ (.inl rfl) e,mA,⟨od,es,ep,k _ _ (.inr d) e2,c⟩,r⟩
 | own y=>obtain ⟨ob,e⟩:=x;exact ⟨ob,k _ _ (.inl rfl) e⟩
 | xd fs=>obtain ⟨mA,⟨od,es,ep,e,c⟩,r⟩:=x;exact ⟨mA,⟨od,es,ep,k _ _ (.inl rfl) e,c⟩,r⟩
 | rng lo hi=>obtain ⟨t,u,v,e⟩:=x;exact ⟨t,u,v,k _ _ (.inl rfl) e⟩
 | frz ob u ih=>obtain ⟨e,q⟩:=x;exact ⟨k _ _ (.inl rfl) e,ih q⟩
 | tbl ps=>
  obtain ⟨qs,e,tr,c⟩:=x
  refine ⟨qs,k _ _ (.inl rfl) e,tr,fun pos cv q=>?_⟩
  obtain ⟨c',o',vs,tk,e1,e2,e3⟩:=c pos cv q
  exact ⟨c',o',vs,tk,e1,hz _ _ _ e2,e3⟩
 | met f y=>
  have e:h.get? a=some (W.methodObj (.ref f) (.ref y)):=x
  show h'.get? a=some (W.methodObj (.ref f) (.ref y))
  exact k a _ (.inl rfl) e
 | ext φ=>obtain ⟨p,⟨o,e⟩,st⟩:=x;exact ⟨st _ _ p fun o q=>k _ _ (.inl rfl) q,⟨o,k _ _ (.inl rfl) e⟩,st⟩
theorem HOk.lt (x:HOk P w H h) (e:H a=some o):a<h.objs.size:=(x a o e).lt
theorem HOk.fresh (x:HOk P w H h) (e:h.objs.size<=a):H a=none:=by
 cases q:H a with
 | none=>rfl
 | some u=>exact absurd (Nat.lt_of_lt_of_le (x.lt q) e) (Nat.lt_irrefl _)
theorem HOk.kept (x:HOk P w H h) (k:∀ b u,h.get? b=some u->h'.get? b=some u):HOk P w H h':=fun a o e=>
 (x a o e).stay (fun b u _ q=>k b u q) (fun _ q=>q) fun _ _ q=>q
theorem HOk.laid (x:HOk P w H h) (k:∀ b u,h.get? b=some u->h'.get? b=some u) (hp:h.objs.size<=a) (new:ObjOk P w (upd H a o) h' a o):HOk P w (upd H a o) h':=fun b u e=>by
 have hn:=x.fresh hp
 by_cases hb:b=a
 ·subst hb;rw [aX] at e;cases e;exact new
 ·rw [aL hb] at e
  exact (x b u e).stay (fun c v _ q=>k c v q) (fun c q=>by rw [aL (aO q hn)];exact q) (fun c xs q=>by rw [aL (aO q hn)];exact q) fun c ob u q=>by rw [aL (aO q hn)];exact q
end
def Rd (H:Hp) (a:Addr) (u:HO):Prop:=H a=some u\/∃ o,H a=some (.frz o u)
theorem Rd.ok {w:World} {H:Hp} {u:HO} (r:Rd H a u) (x:HOk P w H h):ObjOk P w H h a u:=by
 rcases r with r|⟨o,r⟩
 ·exact x a u r
 ·obtain ⟨_,q⟩:=x a _ r
  exact q
def Mut:Option HO->Prop
 | some (.lst _)=>True
 | some (.dK _)=>True
 | some (.dT _)=>True
 | some (.set _ _)=>True
 | some (.ins _ _ _)=>True
 | some (.ext _)=>True
 | _=>False
section
variable {P:Program} {w:World} {H:Hp} {h h':Heap} {x e:Addr} {o':HO}
theorem HOk.write (ok:HOk P w H h) (mu:Mut (H x)) (he:e=x\/H e=some (.own x)) (k:∀ b u,b≠e->h.get? b=some u->h'.get? b=some u) (heo:∃ u,h'.get? e=some u)
 (new:ObjOk P w (upd H x o') h' x o'):HOk P w (upd H x o') h':=fun b u q=>by
 have nown:∀ c y,H c=some (.own y)->c≠x:=fun c y r z=>by subst z;rw [r] at mu;exact mu
 have ntup:∀ c xs,H c=some (.tup xs)->c≠x:=fun c xs r z=>by subst z;rw [r] at mu;exact mu
 have nfrz:∀ c ob u,H c=some (.frz ob u)->c≠x:=fun c ob u r z=>by subst z;rw [r] at mu;exact mu
 by_cases hb:b=x
 ·subst hb;rw [aX] at q;cases q;exact new
 ·rw [aL hb] at q
  by_cases hbe:b=e
  ·have q':H b=some (.own x):=by
    rcases he with z|z
    ·exact absurd (hbe.trans z) hb
    ·rw [hbe];exact z
   rw [q] at q';cases q'
   obtain ⟨v,hv⟩:=heo
   exact ⟨v,by rw [hbe];exact hv⟩
  ·refine (ok b u q).stay (fun c v hc r=>k c v ?_ r) (fun c r=>by rw [aL (nown c b r)];exact r) (fun c xs r=>by rw [aL (ntup c xs r)];exact r) fun c ob u r=>by rw [aL (nfrz c ob u r)];exact r
   rcases hc with rfl|hc
   ·exact hbe
   ·rintro rfl
    rcases he with z|z
    ·exact nown c b hc z
    ·rw [hc] at z;cases z;exact hb rfl
end
structure Un (fs ex:List Addr) (H H':Hp) (h h':Heap):Prop where
 keep:∀ b o,h.get? b=some o->H b=none->b ∉ fs->b ∉ ex->h'.get? b=some o
 slot:∀ b o,h.get? b=some o->H b=none->b∈fs->b ∉ ex->∃ sl,h'.get? b=some { o with slots:=sl }
 free:∀ b o,h.get? b=some o->H b=none->b ∉ ex->H' b=none
 there:∀ b o,h.get? b=some o->b ∉ ex->∃ o',h'.get? b=some o'
 tups:∀ b xs,H b=some (.tup xs)->H' b=some (.tup xs)
 frzs:∀ b o u,H b=some (.frz o u)->H' b=some (.frz o u)
 tbls:∀ b ps,H b=some (.tbl ps)->∃ more,H' b=some (.tbl (ps++more))
section
variable {fs fs' ex ex':List Addr} {H H1 H2:Hp} {h h1 h2 h':Heap} {a x e:Addr} {o:HO}
theorem Un.any (u:Un fs ex H H1 h h1) {ob:Obj} (q:h.get? b=some ob) (n:H b=none) (hx:b ∉ ex):∃ sl,h1.get? b=some { ob with slots:=sl }:=by
 by_cases hb:b∈fs
 ·exact u.slot b ob q n hb hx
 ·exact ⟨ob.slots,u.keep b ob q n hb hx⟩
theorem Un.kept (k:∀ b u,h.get? b=some u->h'.get? b=some u):Un fs ex H H h h':=
 ⟨fun b ob q _ _ _=>k b ob q,fun b ob q _ _ _=>⟨ob.slots,k b ob q⟩,fun _ _ _ n _=>n,fun b ob q _=>⟨ob,k b ob q⟩,fun _ _ q=>q,fun _ _ _ q=>q,fun _ ps q=>⟨#[],by rw [q];simp⟩⟩
theorem Un.refl:Un fs ex H H h h:=Un.kept fun _ _ q=>q
theorem Un.laid (k:∀ b u,h.get? b=some u->h'.get? b=some u) (hp:h.objs.size<=a) (hn:H a=none):Un fs ex H (upd H a o) h h' where
 keep:=fun b u q _ _ _=>k b u q
 slot:=fun b u q _ _ _=>⟨u.slots,k b u q⟩
 free:=fun b u q n _=>by rw [aL (Nat.ne_of_lt (Nat.lt_of_lt_of_le (Heap.lt_size q) hp))];exact n
 there:=fun b u q _=>⟨u,k b u q⟩
 tups:=fun b xs q=>by rw [aL (aO q hn)];exact q
 frzs:=fun b u xs q=>by rw [aL (aO q hn)];exact q
 tbls:=fun b ps q=>⟨#[],by rw [aL (aO q hn),q];simp⟩
theorem Un.write (mu:Mut (H x)) (he:e=x\/H e=some (.own x)) (k:∀ b u,b≠e->h.get? b=some u->h'.get? b=some u) (heo:∃ u,h'.get? e=some u):Un fs ex H (upd H x o) h h':=by
 have hx:∀ b,H b=none->b≠x:=fun b n z=>by subst z;rw [n] at mu;exact mu
 have hb:∀ b,H b=none->b≠e:=fun b n z=>by
  subst z
  rcases he with r|r
  ·exact hx b n r
  ·rw [n] at r;cases r
 have hm:∀ b u,H b=some u->¬ Mut (some u)->b≠x:=fun b u q nm z=>by subst z;rw [q] at mu;exact nm mu
 refine ⟨fun b u q n _ _=>k b u (hb b n) q,fun b u q n _ _=>⟨u.slots,k b u (hb b n) q⟩,fun b u q n _=>by rw [aL (hx b n)];exact n,fun b u q _=>?_,
  fun b xs q=>by rw [aL (hm b _ q fun z=>z)];exact q,fun b u xs q=>by rw [aL (hm b _ q fun z=>z)];exact q,fun b ps q=>⟨#[],by rw [aL (hm b _ q fun z=>z),q];simp⟩⟩
 by_cases hbe:b=e
 ·subst hbe;exact heo
 ·exact ⟨u,k b u hbe q⟩
end
def Bh:HO->Value
 | .tbl ps=>if ps.size=1 then ps.getD 0 .none else .none
 | _=>.none
def BV (H:Hp) (b:Addr) (o:Obj):Obj:=match H b with
 | none=>(match o.data with|.freed=>⟨.none,none,.freed,#[]⟩|_=>o)
 | some u=>⟨Bh u,none,.freed,#[]⟩
def vn (h:Heap) (H:Hp):Heap:=⟨h.objs.mapIdx fun b o=>BV H b o,h.life⟩
theorem yY (h:Heap) (H:Hp):(vn h H).objs.size=h.objs.size:=Array.size_mapIdx
theorem get_objs {o:Obj}:h.get? b=some o ↔ h.objs[b]?=some o/\o.data ≠ .freed:=by
 unfold Heap.get?
 constructor
 ·intro e
  split at e
  ·cases e
  ·rename_i z
   refine ⟨e,fun q=>?_⟩
   obtain ⟨a,b,c,d⟩:=o
   cases q
   exact z _ _ _ e
 ·rintro ⟨e,n⟩
  rw [e]
  obtain ⟨a,b,c,d⟩:=o
  split
  ·rename_i q
   cases q
   exact absurd rfl n
  ·rfl
theorem jb (h:Heap) (H:Hp) (b:Addr):(vn h H).objs[b]?=(h.objs[b]?).map (BV H b):=Array.getElem?_mapIdx
theorem Ai {H:Hp} {o:Obj} (e:h.get? b=some o) (n:H b=none):(vn h H).get? b=some o:=by
 obtain ⟨e1,e2⟩:=get_objs.1 e
 have z:BV H b o=o:=by
  unfold BV
  rw [n]
  cases q:o.data <;> first|rfl|exact absurd q e2
 exact get_objs.2 ⟨by rw [jb,e1,Option.map_some,z],e2⟩
theorem Cm {H:Hp} {o:Obj} (e:(vn h H).get? b=some o):h.get? b=some o/\H b=none:=by
 obtain ⟨e1,e2⟩:=get_objs.1 e
 rw [jb] at e1
 cases q:h.objs[b]? with
 | none=>rw [q] at e1;cases e1
 | some o'=>
  rw [q,Option.map_some] at e1
  have e1:=Option.some.inj e1
  unfold BV at e1
  cases hq:H b with
  | none=>
   rw [hq] at e1
   dsimp only at e1
   split at e1
   ·rw [<- e1] at e2;exact absurd rfl e2
   ·exact ⟨get_objs.2 ⟨by rw [q,e1],e2⟩,rfl⟩
  | some u=>rw [hq] at e1;dsimp only at e1;rw [<- e1] at e2;exact absurd rfl e2
def xk (base:Heap) (p:Addr) (q:Str):Prop:=base.objs[p]?=some ⟨.str q 0,none,.freed,#[]⟩
def TabsIn (base:Heap) (H:Hp):Prop:=∀ p q,xk base p q->∃ more,H p=some (.tbl (#[.str q 0]++more))
theorem A1 {H:Hp} {p:Addr} {q:Str} {o:Obj} (e:h.objs[p]?=some o) (t:H p=some (.tbl #[.str q 0])):xk (vn h H) p q:=by
 unfold xk
 rw [jb,e,Option.map_some]
 unfold BV
 rw [t]
 rfl
theorem yX (h : Heap) (H : Hp) : TabsIn (vn h H) H := fun p q e => by
  unfold xk at e
  rw [jb] at e
  cases z : h.objs[p]? with
  | none => rw [z] at e; cases e
  | some o =>
    rw [z, Option.map_some] at e
    have e := Option.some.inj e
    unfold BV at e
    cases hq : H p with
    | none =>
      rw [hq] at e
      dsimp only at e
      split at e
      · cases e
      · rename_i n; rw [e] at n; exact absurd rfl n
    | some u =>
      rw [hq] at e
      have e := congrArg Obj.cls e
      cases u with
      | tbl ps =>
        dsimp only [Bh] at e
        split at e
        · rename_i n
          refine ⟨#[], ?_⟩
          obtain ⟨l⟩ := ps
          match l, n with
          | [v], _ => have : v = .str q 0 := e
                      rw [this]; rfl
        · cases e
      | _ => cases e
theorem TabsIn.un {base:Heap} {fs ex:List Addr} {H H':Hp} (t:TabsIn base H) (u:Un fs ex H H' h h'):TabsIn base H':=fun p q e=>by
 obtain ⟨m1,z⟩:=t p q e
 obtain ⟨m2,z⟩:=u.tbls p _ z
 exact ⟨m1++m2,by rw [z,Array.append_assoc]⟩
def BQ (g h:Heap) (L:Addr):List (Addr×Obj):=(List.range h.objs.size).filterMap fun a=>if a=L\/(g.get? a).isSome=true then none else (h.get? a).map fun o=>(a,o)
def cV (g h:Heap) (L d:Addr):List (Addr×Obj):=(BQ g h L).filter fun p=>decide (p.1≠d)
end L2
variable {xs vs:List L2.V} {H H' H1 G K1:L2.Hp} {o:L2.HO} {v:L2.V}
namespace L2
open PySem PySem.Spec PyProof.Rows
structure Mod (K:W.Frag) (mg:Str->Option Value) (base:Heap):Prop where
 kin:K.In base
 glob:base.Ns mainGlobals mg
 blt:∃ mb,base.Ns builtinsNs mb/\∀ x:Str,x ≠ "__name__"->mb x=bootBuiltins x
 nolimit:base.NoLimit
structure Cx where
 prog:Program
 w:World
 K:W.Frag
 mg:Str->Option Value
 base:Heap
 A:Around
 N:List Str
 L8:Shared
 K0:Hp
 env:Env
 outer:List Env
 stack:List Env
 ex:List Addr
 fn:Str->Bool
 calm:Bool
 pn:List (Addr×Obj)
 xe:Value->Shared->Prop
def frs (l:List Env):List Addr:=l.filterMap (·.frame)
abbrev Cx.fs (X:Cx):List Addr:=frs X.outer
def Vis (sc:Scope) (x:Str):Prop:=sc.names.lookup x=some .local\/sc.names.lookup x=some .cell\/sc.names.lookup x=some .free
def Loc (sc:Scope) (x:Str):Prop:=sc.names.lookup x=some .local\/sc.names.lookup x=some .cell
def Iy (env:Env) (h:Heap) (m:Str->Option Value) (x:Str) (u:Value):Prop:=
 (env.kindOf x=some .local/\m x=some u)\/((env.kindOf x=some .cell\/env.kindOf x=some .free)/\∃ c,env.cells.lookup x=some c/\h.IsCell c (some u))
structure Cx.Ok (X:Cx):Prop where
 mod:Mod X.K X.mg X.base
 kind:X.env.scope.kind=.function
 glob:X.env.globals=mainGlobals
 blt:X.env.builtins=builtinsNs
 above:X.L8.heap.objs.size<=X.env.locals
 inj:∀ x y c,X.env.cells.lookup x=some c->X.env.cells.lookup y=some c->x=y
 has:∀ x,(X.env.kindOf x=some .cell\/X.env.kindOf x=some .free)->∃ c,X.env.cells.lookup x=some c
 cab:∀ x c,X.fn x=true->X.env.cells.lookup x=some c->X.L8.heap.objs.size<=c
 hd:X.calm=true->X.A.handled=none
 frames:X.A.frames=some X.stack
 stk:X.stack=X.outer\/(X.stack=X.env::X.outer/\X.env.frame=some X.env.locals)
 exf:∀ b∈X.ex,b≠X.env.locals/\∀ x c,X.env.cells.lookup x=some c->c≠b
 bs:∀ b o,X.base.get? b=some o->X.L8.heap.get? b=some o/\X.K0 b=none
 bsz:X.base.objs.size<=X.L8.heap.objs.size
 noex:∀ b o,X.base.get? b=some o->b ∉ X.ex
 exfs:∀ b∈X.ex,b ∉ X.fs
 funs:X.L8.heap.FunFrames X.base X.outer
 frf:∀ b∈X.fs,X.K0 b=none
 tabs:TabsIn X.base X.K0
structure Inv (X:Cx) (pins:List (Addr×Obj)) (σ:List (Option V)) (H:Hp) (s:Shared):Prop where
 ok:X.Ok
 os:s.os=X.L8.os
 bare:AllBare s.gens
 base:Un X.fs X.ex X.K0 H X.L8.heap s.heap
 loc:∃ m,s.heap.Ns X.env.locals m/\∀ (i:Nat) (x:Str) (v:V),X.N[i]?=some x->σ[i]?=some (some v)->Vis X.env.scope x->∃ u,RelV v u/\Iy X.env s.heap m x u
 cell:∀ x c,X.env.cells.lookup x=some c->∃ v,s.heap.IsCell c v
 free:H X.env.locals=none
 freeC:∀ x c,X.env.cells.lookup x=some c->H c=none
 pin:∀ p∈X.pn++pins,s.heap.get? p.1=some p.2/\H p.1=none/\p.1≠X.env.locals/\p.1 ∉ X.fs/\∀ v,p.2.data ≠ .cell v
 hok:HOk X.prog X.w H s.heap
 len:σ.length=X.N.length
section
variable {X:Cx} {pins:List (Addr×Obj)} {σ:List (Option V)} {H H':Hp} {s:Shared} {h':Heap}
theorem Cx.Ok.nofr (ok:X.Ok) {o:Obj} (e:X.base.get? b=some o):b ∉ X.fs:=fun hb=>by
 have:=(ok.funs.mem hb).1
 rw [e] at this;cases this
theorem Inv.bs (I:Inv X pins σ H s):∀ b o,X.base.get? b=some o->s.heap.get? b=some o/\H b=none:=fun b o e=>
 ⟨I.base.keep b o (I.ok.bs b o e).1 (I.ok.bs b o e).2 (I.ok.nofr e) (I.ok.noex b o e),I.base.free b o (I.ok.bs b o e).1 (I.ok.bs b o e).2 (I.ok.noex b o e)⟩
theorem Inv.bk (I:Inv X pins σ H s):∀ b o,X.base.get? b=some o->s.heap.get? b=some o:=fun b o e=>(I.bs b o e).1
theorem Inv.mod (I:Inv X pins σ H s):Mod X.K X.mg X.base:=I.ok.mod
theorem Inv.kIn (I:Inv X pins σ H s):X.K.In s.heap:=I.ok.mod.kin.keeps I.bk
theorem Inv.nolimit (I:Inv X pins σ H s):s.heap.NoLimit:=I.ok.mod.nolimit.keeps I.bk
theorem Inv.lt (I:Inv X pins σ H s):X.env.locals<s.heap.objs.size:=let ⟨_,hn,_⟩:=I.loc;hn.lt
theorem Inv.sz (I:Inv X pins σ H s):X.L8.heap.objs.size<=s.heap.objs.size:=Nat.le_trans I.ok.above (Nat.le_of_lt I.lt)
theorem Inv.nofs (I:Inv X pins σ H s) (h:s.heap.objs.size<=a):a ∉ X.fs:=fun hb=>by
 obtain ⟨_,o,ho,_⟩:=I.ok.funs.mem hb
 exact absurd (Nat.lt_of_lt_of_le (Heap.lt_size ho) (Nat.le_trans I.sz h)) (Nat.lt_irrefl _)
theorem Inv.cne (I:Inv X pins σ H s):∀ x c,X.env.cells.lookup x=some c->c≠X.env.locals:=fun x c e z=>by
 obtain ⟨v,o,ho,hd⟩:=I.cell x c e
 obtain ⟨m,⟨o',es,ep,ho',hd',_⟩,_⟩:=I.loc
 rw [z,ho'] at ho;cases ho;rw [hd'] at hd;cases hd
theorem Inv.funs (I:Inv X pins σ H s):s.heap.FunFrames X.base X.outer:=by
 have all:∀ (l:List Env),(∀ b∈frs l,b∈X.fs)->X.L8.heap.FunFrames X.base l->s.heap.FunFrames X.base l:=by
  intro l
  induction l with
  | nil=>intro _ _;trivial
  | cons env r ih=>
   intro hs hl
   obtain ⟨hk,⟨L,o,hf,hn,ho,hd⟩,hr⟩:=hl
   have hL:L∈X.fs:=hs L (by unfold frs;rw [List.filterMap_cons,hf];exact List.mem_cons_self)
   obtain ⟨sl,e⟩:=I.base.slot L o ho (I.ok.frf L hL) hL fun z=>I.ok.exfs L z hL
   exact ⟨hk,⟨L,_,hf,hn,e,hd⟩,ih (fun b hb=>hs b (by unfold frs;rw [List.filterMap_cons,hf];exact List.mem_cons_of_mem _ hb)) hr⟩
 exact all X.outer (fun _ hb=>hb) I.ok.funs
theorem Inv.stack (I:Inv X pins σ H s):s.heap.FunFrames X.base X.stack:=by
 rcases I.ok.stk with e|⟨e,hf⟩
 ·rw [e];exact I.funs
 ·rw [e]
  obtain ⟨m,hn,_⟩:=I.loc
  refine .cons (by rw [I.ok.kind];decide) hf hn ?_ I.funs
  exact Heap.get?_none_of_le (Nat.le_trans I.ok.bsz I.ok.above)
theorem Inv.stkSub (I:Inv X pins σ H s):∀ b∈frs X.stack,b∈X.env.locals::X.fs:=fun b hb=>by
 rcases I.ok.stk with e|⟨e,hf⟩
 ·rw [e] at hb;exact List.mem_cons_of_mem _ hb
 ·rw [e] at hb
  unfold frs at hb
  rw [List.filterMap_cons,hf] at hb
  exact hb
theorem Inv.stkFree (I:Inv X pins σ H s):∀ b∈frs X.stack,H b=none:=fun b hb=>by
 rcases List.mem_cons.mp (I.stkSub b hb) with e|hb
 ·rw [e];exact I.free
 ·obtain ⟨_,o,ho,_⟩:=I.ok.funs.mem hb
  exact I.base.free b o ho (I.ok.frf b hb) fun z=>I.ok.exfs b z hb
theorem Inv.step {g':Array GenState} {t':Nat} {d':Drawn} (I:Inv X pins σ H s)
 (hch:∀ b∈ch,(b∈X.ex\/X.L8.heap.objs.size<=b)/\b≠X.env.locals/\(∀ x c,X.env.cells.lookup x=some c->c≠b)/\∀ p∈X.pn++pins,p.1≠b)
 (keep:∀ b o,b≠X.env.locals->b ∉ X.fs->b ∉ ch->s.heap.get? b=some o->H b=none->h'.get? b=some o)
 (slot:∀ b o,b≠X.env.locals->b∈X.fs->b ∉ ch->s.heap.get? b=some o->H b=none->∃ sl,h'.get? b=some { o with slots:=sl }) (free:∀ b o,b ∉ ch->s.heap.get? b=some o->H b=none->H' b=none)
 (there:∀ b o,b ∉ ch->s.heap.get? b=some o->∃ o',h'.get? b=some o')
 (tups:∀ b xs,H b=some (.tup xs)->H' b=some (.tup xs)) (frzs:∀ b o u,H b=some (.frz o u)->H' b=some (.frz o u)) (tbls:∀ b ps,H b=some (.tbl ps)->∃ more,H' b=some (.tbl (ps++more)))
 (ns:∀ m,s.heap.Ns X.env.locals m->h'.Ns X.env.locals m) (hok:HOk X.prog X.w H' h') (hg:AllBare g') :
  Inv X pins σ H' { s with heap:=h',gens:=g',drawn:=d',toks:=t' }:=by
 have neL:∀ b o,X.L8.heap.get? b=some o->b≠X.env.locals:=fun b o e=>Nat.ne_of_lt (Nat.lt_of_lt_of_le (Heap.lt_size e) I.ok.above)
 have neC:∀ b o,X.L8.heap.get? b=some o->b ∉ X.ex->b ∉ ch:=fun b o e hx hb=>by
  rcases (hch b hb).1 with z|z
  ·exact hx z
  ·exact absurd (Nat.lt_of_lt_of_le (Heap.lt_size e) z) (Nat.lt_irrefl _)
 have cellK:∀ x c,X.env.cells.lookup x=some c->∀ v,s.heap.IsCell c v->h'.IsCell c v:=fun x c e v ⟨o,ho,hd⟩=>by
  have nch:c ∉ ch:=fun z=>(hch c z).2.2.1 x c e rfl
  by_cases hc:c∈X.fs
  ·obtain ⟨sl,q⟩:=slot c o (I.cne x c e) hc nch ho (I.freeC x c e)
   exact ⟨_,q,hd⟩
  ·exact ⟨o,keep c o (I.cne x c e) hc nch ho (I.freeC x c e),hd⟩
 refine ⟨I.ok,I.os,hg,⟨fun b o e n hb hx=>?_,fun b o e n hb hx=>?_,fun b o e n hx=>?_,fun b o e hx=>?_,fun b xs e=>tups b xs (I.base.tups b xs e),fun b o xs e=>frzs b o xs (I.base.frzs b o xs e),fun b ps e=>?_⟩,?_,fun x c e=>?_,?_,fun x c e=>?_,fun p hp=>?_,hok,I.len⟩
 ·exact keep b o (neL b o e) hb (neC b o e hx) (I.base.keep b o e n hb hx) (I.base.free b o e n hx)
 ·obtain ⟨sl,e1⟩:=I.base.slot b o e n hb hx
  obtain ⟨sl',e2⟩:=slot b _ (neL b o e) hb (neC b o e hx) e1 (I.base.free b o e n hx)
  exact ⟨sl',e2⟩
 ·obtain ⟨o',e1⟩:=I.base.there b o e hx
  exact free b o' (neC b o e hx) e1 (I.base.free b o e n hx)
 ·obtain ⟨o',e1⟩:=I.base.there b o e hx
  exact there b o' (neC b o e hx) e1
 ·obtain ⟨m1,e1⟩:=I.base.tbls b ps e
  obtain ⟨m2,e2⟩:=tbls b _ e1
  exact ⟨m1++m2,by rw [e2,Array.append_assoc]⟩
 ·obtain ⟨m,hn,hl⟩:=I.loc
  refine ⟨m,ns m hn,fun i x v e1 e2 e3=>?_⟩
  obtain ⟨u,r,l⟩:=hl i x v e1 e2 e3
  refine ⟨u,r,?_⟩
  rcases l with l|⟨k,c,e,z⟩
  ·exact .inl l
  ·exact .inr ⟨k,c,e,cellK x c e _ z⟩
 ·obtain ⟨v,z⟩:=I.cell x c e
  exact ⟨v,cellK x c e v z⟩
 ·obtain ⟨m,⟨o,_,_,ho,_⟩,_⟩:=I.loc
  exact free _ o (fun z=>(hch _ z).2.1 rfl) ho I.free
 ·obtain ⟨v,o,ho,hd⟩:=I.cell x c e
  exact free c o (fun z=>(hch c z).2.2.1 x c e rfl) ho (I.freeC x c e)
 ·obtain ⟨e,n,ne,nf,d⟩:=I.pin p hp
  have nch:p.1 ∉ ch:=fun z=>(hch p.1 z).2.2.2 p hp rfl
  exact ⟨keep p.1 p.2 ne nf nch e n,free p.1 p.2 nch e n,ne,nf,d⟩
theorem Inv.un {t':Nat} (I:Inv X pins σ H s) (u:Un X.fs [] H H' s.heap h') (hok:HOk X.prog X.w H' h'):Inv X pins σ H' { s with heap:=h',toks:=t' }:=by
 obtain ⟨m,⟨o,es,ep,ho,r⟩,_⟩:=id I.loc
 obtain ⟨sl,hL⟩:=u.any ho I.free (by simp)
 exact I.step (g':=s.gens) (d':=s.drawn) (ch:=[]) (fun _ z=>nomatch z) (fun b o _ hb _ e n=>u.keep b o e n hb (by simp)) (fun b o _ hb _ e n=>u.slot b o e n hb (by simp)) (fun b o _ e n=>u.free b o e n (by simp)) (fun b o _ e=>u.there b o e (by simp)) u.tups u.frzs u.tbls (fun m' hm=>by
  obtain ⟨o',es',ep',ho',r'⟩:=hm
  rw [ho] at ho';cases ho'
  exact ⟨_,es',ep',hL,r'⟩) hok I.bare
theorem Inv.call {g':Array GenState} {t':Nat} {d':Drawn} (I:Inv X pins σ H s) (u:Un (frs X.stack) ch H H' s.heap h') (hok:HOk X.prog X.w H' h') (hg:AllBare g')
 (hch:∀ b∈ch,(b∈X.ex\/X.L8.heap.objs.size<=b)/\b≠X.env.locals/\(∀ x c,X.env.cells.lookup x=some c->c≠b)/\∀ p∈X.pn++pins,p.1≠b) :
  Inv X pins σ H' { s with heap:=h',gens:=g',drawn:=d',toks:=t' }:=by
 obtain ⟨m,⟨o,es,ep,ho,r⟩,_⟩:=id I.loc
 obtain ⟨sl,hL⟩:=u.any ho I.free fun z=>(hch _ z).2.1 rfl
 exact I.step (ch:=ch) hch (fun b o hL hb hc e n=>u.keep b o e n (fun z=>(List.mem_cons.mp (I.stkSub b z)).elim hL hb) hc) (fun b o _ _ hc e n=>u.any e n hc) (fun b o hc e n=>u.free b o e n hc) (fun b o hc e=>u.there b o e hc) u.tups u.frzs u.tbls (fun m' hm=>by
  obtain ⟨o',es',ep',ho',r'⟩:=hm
  rw [ho] at ho';cases ho'
  exact ⟨_,es',ep',hL,r'⟩) hok hg
theorem Inv.turned {t':Nat} (I:Inv X pins σ H s) (k:∀ b o,b≠it->s.heap.get? b=some o->h'.get? b=some o) (hn:H it=none) (hL:it≠X.env.locals)
 (h1:it∈X.ex\/X.L8.heap.objs.size<=it) (h2:∀ x c,X.env.cells.lookup x=some c->c≠it) (h3:∀ p∈X.pn++pins,p.1≠it):Inv X pins σ H { s with heap:=h',toks:=t' }:=by
 have nit:∀ b u,H b=some u->b≠it:=fun b u e z=>by rw [z,hn] at e;cases e
 refine I.step (g':=s.gens) (d':=s.drawn) (ch:=[it]) (fun b hb=>?_) (fun b o _ _ hc e _=>k b o (fun z=>hc (by simp [z])) e) (fun b o _ _ hc e _=>⟨o.slots,k b o (fun z=>hc (by simp [z])) e⟩) (fun _ _ _ _ n=>n)
  (fun b o hc e=>⟨o,k b o (fun z=>hc (by simp [z])) e⟩) (fun _ _ e=>e) (fun _ _ _ e=>e) (fun b ps e=>⟨#[],by rw [e];simp⟩) (fun m hm=>?_) (fun b u e=>?_) I.bare
 ·have e:b=it:=by simpa using hb
  subst e
  exact ⟨h1,hL,h2,h3⟩
 ·obtain ⟨o,es,ep,ho,r⟩:=hm
  exact ⟨o,es,ep,k _ o (Ne.symm hL) ho,r⟩
 ·refine (I.hok b u e).stay (fun c v hc q=>k c v ?_ q) (fun _ q=>q) fun _ _ q=>q
  rcases hc with z|z
  ·rw [z];exact nit b u e
  ·exact nit c _ z
theorem Inv.tok (I:Inv X pins σ H s) (t:Nat):Inv X pins σ H { s with toks:=t }:=I.un (h':=s.heap) (t':=t) Un.refl I.hok
theorem Inv.kept {t':Nat} (I:Inv X pins σ H s) (k:∀ b u,s.heap.get? b=some u->h'.get? b=some u):Inv X pins σ H { s with heap:=h',toks:=t' }:=I.un (Un.kept k) (I.hok.kept k)
theorem Inv.laid {t':Nat} (I:Inv X pins σ H s) (k:∀ b u,s.heap.get? b=some u->h'.get? b=some u) (hp:s.heap.objs.size<=a) (new:ObjOk X.prog X.w (upd H a o) h' a o) :
  Inv X pins σ (upd H a o) { s with heap:=h',toks:=t' }:=I.un (Un.laid k hp (I.hok.fresh hp)) (I.hok.laid k hp new)
theorem Inv.write {x e:Addr} {t':Nat} (I:Inv X pins σ H s) (mu:Mut (H x)) (he:e=x\/H e=some (.own x)) (k:∀ b u,b≠e->s.heap.get? b=some u->h'.get? b=some u) (heo:∃ u,h'.get? e=some u)
 (new:ObjOk X.prog X.w (upd H x o) h' x o):Inv X pins σ (upd H x o) { s with heap:=h',toks:=t' }:=I.un (Un.write mu he k heo) (I.hok.write mu he k heo new)
theorem Inv.pins_of {pins':List (Addr×Obj)} (I:Inv X pins σ H s) (h:∀ p∈pins',s.heap.get? p.1=some p.2/\H p.1=none/\p.1≠X.env.locals/\p.1 ∉ X.fs/\∀ v,p.2.data ≠ .cell v):Inv X pins' σ H s:=
 ⟨I.ok,I.os,I.bare,I.base,I.loc,I.cell,I.free,I.freeC,fun p hp=>(List.mem_append.mp hp).elim (fun z=>I.pin p (List.mem_append_left _ z)) (h p),I.hok,I.len⟩
theorem ph {N:List Str} (hN:N.Nodup) (a:N[i]?=some x) (b:N[j]?=some x):i=j:=by
 obtain ⟨h1,e1⟩:=List.getElem?_eq_some_iff.mp a
 obtain ⟨h2,e2⟩:=List.getElem?_eq_some_iff.mp b
 exact (List.getElem_inj hN).mp (e1.trans e2.symm)
theorem ji {M:Model} {A:Around} {Q:Unit->Shared->Prop} (I:Inv X pins σ H s) (hN:X.N.Nodup) (hi:X.N[i]?=some x) (hx:Loc X.env.scope x) (r:RelV v u)
 (h:∀ s',Inv X pins (σ.set i (some v)) H s'->(∃ a,Heap.SameBut a s.heap s'.heap/\(a=X.env.locals\/X.env.cells.lookup x=some a))->Q () s') (hf:X.fn x=true\/X.env.scope.names.lookup x=some .local:=by first|exact .inl rfl|exact .inr rfl|assumption):wpAny M A (storeName X.env x u) Q E s:=by
 obtain ⟨m,hn,hl⟩:=id I.loc
 have hcls:(X.env.scope.kind==.class || (X.env.scope.kind==.module && X.env.locals != X.env.globals))=false:=by rw [I.ok.kind];rfl
 have hiσ:i<σ.length:=by rw [I.len];exact (List.getElem?_eq_some_iff.mp hi).1
 have cne:=I.cne
 have tracked:∀ {a:Addr} {h':Heap},(∃ o,s.heap.get? a=some o/\H a=none)->Heap.SameBut a s.heap h'->HOk X.prog X.w H h':=fun {a h'} ha hs b ob e=>by
  obtain ⟨_,_,hfree⟩:=ha
  refine (I.hok b ob e).stay (fun c w' hc q=>(hs.2 c ?_).trans q) (fun _ q=>q) fun _ _ q=>q
  rintro rfl
  rcases hc with rfl|hc
  ·rw [hfree] at e;cases e
  ·rw [hfree] at hc;cases hc
 rcases hx with hk|hk
 ·refine wpAny_storeName_local hk hn (fun h' hn' hs=>?_) hcls
  obtain ⟨oL,_,_,hoL,_⟩:=id hn
  refine h _ ⟨I.ok,I.os,I.bare,⟨fun b o e n hb hx=>?_,fun b o e n hb hx=>?_,I.base.free,fun b o e hx=>?_,I.base.tups,I.base.frzs,I.base.tbls⟩,⟨_,hn',fun j y v' e1 e2 e3=>?_⟩,fun y c e=>?_,I.free,I.freeC,fun p hp=>?_,tracked ⟨oL,hoL,I.free⟩ hs,by simpa using I.len⟩ ⟨_,hs,.inl rfl⟩
  ·exact (hs.2 b (Nat.ne_of_lt (Nat.lt_of_lt_of_le (Heap.lt_size e) I.ok.above))).trans (I.base.keep b o e n hb hx)
  ·obtain ⟨sl,e1⟩:=I.base.slot b o e n hb hx
   exact ⟨sl,(hs.2 b (Nat.ne_of_lt (Nat.lt_of_lt_of_le (Heap.lt_size e) I.ok.above))).trans e1⟩
  ·obtain ⟨o',e1⟩:=I.base.there b o e hx
   exact ⟨o',(hs.2 b (Nat.ne_of_lt (Nat.lt_of_lt_of_le (Heap.lt_size e) I.ok.above))).trans e1⟩
  ·by_cases hj:j=i
   ·subst hj
    rw [hi] at e1;cases e1
    rw [List.getElem?_set_self hiσ] at e2
    cases e2
    exact ⟨u,r,.inl ⟨hk,by simp⟩⟩
   ·rw [List.getElem?_set_ne (Ne.symm hj)] at e2
    obtain ⟨u',r',q⟩:=hl j y v' e1 e2 e3
    refine ⟨u',r',?_⟩
    rcases q with ⟨k,e⟩|⟨k,c,e,z⟩
    ·refine .inl ⟨k,?_⟩
     have:y≠x:=fun e=>hj (ph hN e1 (e ▸ hi))
     simp [this,e]
    ·exact .inr ⟨k,c,e,z.sameBut hs (cne y c e)⟩
  ·obtain ⟨w',z⟩:=I.cell y c e
   exact ⟨w',z.sameBut hs (cne y c e)⟩
  ·obtain ⟨e,n,ne,nf,d⟩:=I.pin p hp
   exact ⟨(hs.2 p.1 ne).trans e,n,ne,nf,d⟩
 ·have hfn:X.fn x=true:=by
   rcases hf with z|z
   ·exact z
   ·rw [z] at hk;cases hk
  obtain ⟨c,hc⟩:=I.ok.has x (.inl hk)
  obtain ⟨w',z⟩:=I.cell x c hc
  refine wpAny_storeName_cell I.ok.kind hk hc z (fun h' hc' hs=>?_)
  obtain ⟨oc,hoc,hocd⟩:=id z
  refine h { s with heap:=h' } ⟨I.ok,I.os,I.bare,⟨fun b o e n hb hx=>?_,fun b o e n hb hx=>?_,I.base.free,fun b o e hx=>?_,I.base.tups,I.base.frzs,I.base.tbls⟩,⟨m,hn.sameBut hs (Ne.symm (cne x c hc)),fun j y v' e1 e2 e3=>?_⟩,fun y c' e=>?_,I.free,I.freeC,fun p hp=>?_,tracked ⟨oc,hoc,I.freeC x c hc⟩ hs,by simpa using I.len⟩ ⟨c,hs,.inr hc⟩
  ·exact (hs.2 b (Nat.ne_of_lt (Nat.lt_of_lt_of_le (Heap.lt_size e) (I.ok.cab x c hfn hc)))).trans (I.base.keep b o e n hb hx)
  ·obtain ⟨sl,e1⟩:=I.base.slot b o e n hb hx
   exact ⟨sl,(hs.2 b (Nat.ne_of_lt (Nat.lt_of_lt_of_le (Heap.lt_size e) (I.ok.cab x c hfn hc)))).trans e1⟩
  ·obtain ⟨o',e1⟩:=I.base.there b o e hx
   exact ⟨o',(hs.2 b (Nat.ne_of_lt (Nat.lt_of_lt_of_le (Heap.lt_size e) (I.ok.cab x c hfn hc)))).trans e1⟩
  ·by_cases hj:j=i
   ·subst hj
    rw [hi] at e1;cases e1
    rw [List.getElem?_set_self hiσ] at e2
    cases e2
    exact ⟨u,r,.inr ⟨.inl hk,c,hc,hc'⟩⟩
   ·rw [List.getElem?_set_ne (Ne.symm hj)] at e2
    obtain ⟨u',r',q⟩:=hl j y v' e1 e2 e3
    refine ⟨u',r',?_⟩
    rcases q with q|⟨k,c',e,z'⟩
    ·exact .inl q
    ·refine .inr ⟨k,c',e,z'.sameBut hs ?_⟩
     rintro rfl
     exact hj (ph hN e1 (I.ok.inj _ _ _ e hc ▸ hi))
  ·by_cases hcc:c'=c
   ·subst hcc;exact ⟨_,hc'⟩
   ·obtain ⟨w2,z2⟩:=I.cell y c' e
    exact ⟨w2,z2.sameBut hs hcc⟩
  ·obtain ⟨e,n,ne,nf,d⟩:=I.pin p hp
   refine ⟨(hs.2 p.1 ?_).trans e,n,ne,nf,d⟩
   intro q
   rw [q,hoc] at e
   have q':oc=p.2:=Option.some.inj e
   exact d w' (by rw [<- q'];exact hocd)
theorem kS {M:Model} {A:Around} {Q:Unit->Shared->Prop} (I:Inv X pins σ H s) (hN:X.N.Nodup) (hi:X.N[i]?=some x) (hx:Loc X.env.scope x) (r:RelV v u)
 (h:∀ s',Inv X pins (σ.set i (some v)) H s'->Q () s') (hf:X.fn x=true\/X.env.scope.names.lookup x=some .local:=by first|exact .inl rfl|exact .inr rfl|assumption):wpAny M A (storeName X.env x u) Q E s:=
 ji I hN hi hx r (fun s' I' _=>h s' I') hf
theorem Inv.call' (I:Inv X pins σ H s) (ho:s'.os=s.os) (u:Un (frs X.stack) ch H H' s.heap s'.heap) (hok:HOk X.prog X.w H' s'.heap) (hg:AllBare s'.gens)
 (hch:∀ b∈ch,(b∈X.ex\/X.L8.heap.objs.size<=b)/\b≠X.env.locals/\(∀ x c,X.env.cells.lookup x=some c->c≠b)/\∀ p∈X.pn++pins,p.1≠b):Inv X pins σ H' s':=by
 obtain ⟨h',g',d',t',o'⟩:=s'
 have e:o'=s.os:=ho
 subst e
 exact I.call (g':=g') (t':=t') (d':=d') u hok hg hch
end
abbrev XK:=Value->Option Addr->Hp->Prop
abbrev St:=List (Option V)
abbrev VK:=V->Hp->Prop
abbrev TE:=St->Hp->VK->Prop
abbrev TT:=St->Hp->(Bool->Hp->Prop)->Prop
abbrev TA:=St->Hp->(List V->Hp->Prop)->Prop
structure Ends where
 nx:St->Hp->Prop
 rt:VK
 bk:St->Hp->Prop:=fun _ _=>False
 ct:St->Hp->Prop:=fun _ _=>False
abbrev TS:=Ends->St->Hp->Prop
def EP (X:Cx) (pins:List (Addr×Obj)) (σ:St) (Q:VK) (u:Value) (s':Shared):Prop:=∃ v H',Inv X pins σ H' s'/\RelV v u/\Q v H'
def TP (X:Cx) (pins:List (Addr×Obj)) (σ:St) (Q:Bool->Hp->Prop) (b:Bool) (s':Shared):Prop:=∃ H',Inv X pins σ H' s'/\Q b H'
def AP (X:Cx) (pins:List (Addr×Obj)) (σ:St) (Q:List V->Hp->Prop) (us:List Value) (s':Shared):Prop:=∃ vs H',Inv X pins σ H' s'/\Vals vs us/\Q vs H'
noncomputable def SP (X:Cx) (pins:List (Addr×Obj)) (D:Ends) (f:Flow) (s':Shared):Prop:=
 match f with
 | .next=>∃ σ' H',Inv X pins σ' H' s'/\D.nx σ' H'
 | .brk=>∃ σ' H',Inv X pins σ' H' s'/\D.bk σ' H'
 | .cont=>∃ σ' H',Inv X pins σ' H' s'/\D.ct σ' H'
 | .ret u=>∃ v σ' H',Inv X pins σ' H' s'/\RelV v u/\D.rt v H'
def PE (X:Cx) (e:Expr) (t:TE):Prop:=
 ∀ (pins:List (Addr×Obj)) (s:Shared) (σ:St) (H:Hp) (Q:VK),Inv X pins σ H s->t σ H Q->wpAny (model X.prog X.w) X.A (eval e X.env) (EP X pins σ Q) X.xe s
def PT (X:Cx) (e:Expr) (t:TT):Prop:=
 ∀ (pins:List (Addr×Obj)) (s:Shared) (σ:St) (H:Hp) (Q:Bool->Hp->Prop),Inv X pins σ H s->t σ H Q->wpAny (model X.prog X.w) X.A (isTrue e X.env (eval e X.env)) (TP X pins σ Q) X.xe s
noncomputable def PW (X:Cx) (e:Expr) (t:TT):Prop:=
 ∀ (whole:Sem Value) (pins:List (Addr×Obj)) (s:Shared) (σ:St) (H:Hp) (Q:Bool->Hp->Prop),Inv X pins σ H s->t σ H Q->wpAny (model X.prog X.w) X.A (isTrue e X.env whole) (TP X pins σ Q) X.xe s
theorem PW.pt {X:Cx} {e:Expr} {t:TT} (h:PW X e t):PT X e t:=h _
noncomputable def PA (X:Cx) (es:List Expr) (t:TA):Prop:=
 ∀ (pos:Pos) (pins:List (Addr×Obj)) (s:Shared) (σ:St) (H:Hp) (Q:List V->Hp->Prop),Inv X pins σ H s->t σ H Q->wpAny (model X.prog X.w) X.A (spliced (backTo pos (starEach es X.env))) (AP X pins σ Q) X.xe s
def PS (X:Cx) (st:Stmt) (t:TS):Prop:=
 ∀ (pins:List (Addr×Obj)) (s:Shared) (σ:St) (H:Hp) (D:Ends),Inv X pins σ H s->t D σ H->wpAny (model X.prog X.w) X.A (exec st X.env) (SP X pins D) X.xe s
def PSs (X:Cx) (st:List Stmt) (t:TS):Prop:=
 ∀ (pins:List (Addr×Obj)) (s:Shared) (σ:St) (H:Hp) (D:Ends),Inv X pins σ H s->t D σ H->wpAny (model X.prog X.w) X.A (execs st X.env) (SP X pins D) X.xe s
theorem thn {α:Type} {t:Sem α} {Q Q':α->Shared->Prop} {M:Model} {A:Around} (h:wpAny M A t Q E s) (hQ:∀ a s,Q a s->Q' a s):wpAny M A t Q' E s:=wpAny_mono h hQ fun _ _ x=>x
end L2
variable {X:L2.Cx} {σ:L2.St}
namespace L2
open PySem PySem.Spec PyProof.Rows
section
variable {X:Cx}
def vj (i:Nat):TE:=fun σ H Q=>∃ v,σ[i]?=some (some v)/\Q v H
def tC (v:V):TE:=fun _ H Q=>Q v H
theorem cw (hN:X.N[i]?=some x) (hv:Vis X.env.scope x) (hd:(x==("__debug__":Str))=false:=by decide) (hcd:(x==("__classdict__":Str))=false:=by decide):PE X (.Name x pos) (vj i):=by
 intro pins s σ H Q I h
 obtain ⟨v,e,h⟩:=h
 obtain ⟨m,hn,hl⟩:=I.loc
 obtain ⟨u,r,l⟩:=hl i x v hN e hv
 have fin:EP X pins σ Q u s:=⟨v,H,I,r,h⟩
 rcases l with ⟨hk,hm⟩|⟨hk,c,hc,hcell⟩
 ·exact wpAny_Name (wpAny_loadName_local I.ok.kind hk hn hm fin) hd
 ·rcases hk with hk|hk
  ·exact wpAny_Name (wpAny_loadName_cell I.ok.kind hk hc hcell fin) hd
  ·exact wpAny_Name (wpAny_loadName_free I.ok.kind hk hc hcell fin hcd) hd
theorem yb {i j pos}:PE X (.Constant (.int i) j pos) (tC (.int i)):=fun _ _ _ H _ I h=>wpAny_Constant_int ⟨.int i,H,I.tok _,⟨_,rfl⟩,h⟩
theorem GF {b j pos}:PE X (.Constant (.bool b) j pos) (tC (.bl b)):=fun _ _ _ H _ I h=>Constant_bool ⟨.bl b,H,I,rfl,h⟩
theorem Ek {j pos}:PE X (.Constant .none j pos) (tC .non):=fun _ _ _ H _ I h=>Constant_none ⟨.non,H,I,rfl,h⟩
theorem EJ {x j pos}:PE X (.Constant (.str x) j pos) (tC (.str x)):=fun _ _ _ H _ I h=>Calls.Constant_str ⟨.str x,H,I.tok _,⟨_,rfl⟩,h⟩
def Gl (X:Cx) (x:Str):Prop:=X.env.kindOf x=some .globalImplicit
theorem fv {Q:Value->Shared->Prop} (I:Inv X pins σ H s) (hg:Gl X x) (hm:X.mg x=some u) (h:Q u s)
 (hd:(x==("__debug__":Str))=false:=by decide):wpAny (model X.prog X.w) X.A (eval (.Name x pos) X.env) Q E s:=
 Calls.Name_function_global I.ok.kind hg (Calls.loadGlobal_global (by rw [I.ok.glob];exact I.mod.glob.keeps I.bk) hm h) hd
theorem qA {Q:Value->Shared->Prop} (I:Inv X pins σ H s) (hg:Gl X x) (hm:X.mg x=none) (hv:bootBuiltins x=some u) (h:Q u s)
 (hn:x ≠ "__name__":=by decide) (hd:(x==("__debug__":Str))=false:=by decide):wpAny (model X.prog X.w) X.A (eval (.Name x pos) X.env) Q E s:=by
 obtain ⟨mb,h1,h2⟩:=I.mod.blt
 exact Calls.Name_function_global I.ok.kind hg (Calls.loadGlobal_builtin (by rw [I.ok.glob];exact I.mod.glob.keeps I.bk) hm (by rw [I.ok.blt];exact h1.keeps I.bk) ((h2 x hn).trans hv) h) hd
theorem tT (hg:Gl X x) (hm:X.mg x=some u) (r:RelV v u) (hd:(x==("__debug__":Str))=false:=by decide):PE X (.Name x pos) (tC v):=
 fun _ _ _ H _ I h=>fv I hg hm ⟨v,H,I,r,h⟩ hd
theorem xr (hg:Gl X x) (hm:X.mg x=none) (hv:bootBuiltins x=some u) (r:RelV v u) (hn:x ≠ "__name__":=by decide) (hd:(x==("__debug__":Str))=false:=by decide):PE X (.Name x pos) (tC v):=
 fun _ _ _ H _ I h=>qA I hg hm hv ⟨v,H,I,r,h⟩ hn hd
variable {a b:Expr} {ta tb:TE} {pos:Pos}
variable {tA tB':TT} {cV:List Expr}
def tOr (t u:TT):TT:=fun σ H Q=>t σ H fun c H1=>if c=true then Q true H1 else u σ H1 Q
def J3 (t:TT):TT:=fun σ H Q=>t σ H fun c H1=>Q (!c) H1
theorem A7 (ha:PT X a tA):PW X (.BoolOp .Or [a] pos) tA:=by
 intro wh pins s σ H Q I h
 refine isTrue_or (thn (ha pins s σ H Q I h) fun c s1 e=>?_)
 cases c with
 | false=>exact isTrue_or_nil e
 | true=>exact e
theorem EE (ha:PT X a tA) (hb:PW X (.BoolOp .Or (b::cV) pos) tB'):PW X (.BoolOp .Or (a::b::cV) pos) (tOr tA tB'):=by
 intro wh pins s σ H Q I h
 refine isTrue_or (thn (ha pins s σ H _ I h) fun c s1 ⟨H1,I1,q1⟩=>?_)
 cases c with
 | true=>exact ⟨H1,I1,q1⟩
 | false=>exact hb wh pins s1 σ H1 Q I1 q1
theorem EL (ha:PT X a tA):PT X (.UnaryOp .Not a pos) (J3 tA):=by
 intro pins s σ H Q I h
 exact isTrue_not (ha pins s σ H (fun c H1=>Q (!c) H1) I h)
def GC (ta tb:TE):TE:=fun σ H Q=>ta σ H fun x H1=>∃ c,x=.bl c/\if c=true then tb σ H1 Q else Q (.bl false) H1
def JF (ta tb:TE):TE:=fun σ H Q=>ta σ H fun x H1=>∃ c,x=.bl c/\if c=true then Q (.bl true) H1 else tb σ H1 Q
def GP (ta:TE):TE:=fun σ H Q=>ta σ H fun x H1=>∃ c,x=.bl c/\Q (.bl (!c)) H1
theorem EX {op} {t:TE} (h:PE X a t):PE X (.BoolOp op [a] pos) t:=fun pins s σ H Q I hw=>BoolOp_one (h pins s σ H Q I hw)
theorem EF (ha:PE X a ta) (hb:PE X (.BoolOp .And (b::cV) pos) tb):PE X (.BoolOp .And (a::b::cV) pos) (GC ta tb):=by
 intro pins s σ H Q I h
 refine BoolOp_and (thn (ha pins s σ H _ I h) fun v s1 ⟨x,H1,I1,r1,q1⟩=>?_)
 obtain ⟨c,rfl,q1⟩:=q1
 cases r1
 refine wpAny_truthy_bool ?_
 cases c with
 | true=>exact hb pins s1 σ H1 Q I1 q1
 | false=>exact ⟨.bl false,H1,I1,rfl,q1⟩
theorem HE (ha:PE X a ta) (hb:PE X (.BoolOp .Or (b::cV) pos) tb):PE X (.BoolOp .Or (a::b::cV) pos) (JF ta tb):=by
 intro pins s σ H Q I h
 refine BoolOp_or (thn (ha pins s σ H _ I h) fun v s1 ⟨x,H1,I1,r1,q1⟩=>?_)
 obtain ⟨c,rfl,q1⟩:=q1
 cases r1
 refine wpAny_truthy_bool ?_
 cases c with
 | false=>exact hb pins s1 σ H1 Q I1 q1
 | true=>exact ⟨.bl true,H1,I1,rfl,q1⟩
theorem EO (ha:PE X a ta):PE X (.UnaryOp .Not a pos) (GP ta):=by
 intro pins s σ H Q I h
 refine UnaryOp_ (thn (ha pins s σ H _ I h) fun v s1 ⟨x,H1,I1,r1,q1⟩=>?_)
 obtain ⟨c,rfl,q1⟩:=q1
 cases r1
 exact not_of (wpAny_truthy_bool ⟨.bl (!c),H1,I1,rfl,q1⟩)
def tIf (t:TT) (ta tb:TE):TE:=fun σ H Q=>t σ H fun c H1=>if c=true then ta σ H1 Q else tb σ H1 Q
theorem uK {c:Expr} (hc:PT X c tA) (ha:PE X a ta) (hb:PE X b tb):PE X (.IfExp c a b pos) (tIf tA ta tb):=by
 intro pins s σ H Q I h
 refine wpAny_IfExp (thn (hc pins s σ H _ I h) fun d s1 ⟨H1,I1,q1⟩=>?_)
 cases d with
 | true=>exact ha pins s1 σ H1 Q I1 q1
 | false=>exact hb pins s1 σ H1 Q I1 q1
end
end L2
namespace L2
open PySem PySem.Spec PyProof.Rows
def SqL (K:W.Frag) (H:Hp) (a:Addr) (xs:List V):Prop:=
 Rd H a (.lst xs)\/
  ∃ (o:Obj) (its:Array Value) (n:Nat),K.lookup a=some o/\o.cls=.type "list"/\o.dict=none/\o.data=.seq its n/\its.size<=sizeLine/\Vals xs its.toList
def SqT (K:W.Frag) (H:Hp) (a:Addr) (xs:List V):Prop:=
 Rd H a (.tup xs)\/
  ∃ (o:Obj) (its:Array Value) (n:Nat),K.lookup a=some o/\o.cls=.type "tuple"/\o.data=.seq its n/\its.size<=sizeLine/\Vals xs its.toList
noncomputable def Jf:Value->Option V
 | .none=>some .non
 | .bool b=>some (.bl b)
 | .int i _=>some (.int i)
 | .str x _=>some (.str x)
 | .bytes b _=>some (.byt b)
 | .float b _=>some (.flt b)
 | .ref a=>some (.ref a)
 | .type n=>some (.ty n)
 | _=>none
theorem RelV.abs {x:V} (r:RelV x u):Jf u=some x:=by
 cases x with
 | non=>cases r;rfl
 | bl _=>cases r;rfl
 | int _=>obtain ⟨t,rfl⟩:=r;rfl
 | str _=>obtain ⟨t,rfl⟩:=r;rfl
 | byt _=>obtain ⟨t,rfl⟩:=r;rfl
 | flt _=>obtain ⟨t,rfl⟩:=r;rfl
 | ref _=>cases r;rfl
 | ty _=>cases r;rfl
theorem RelV.inj {x y:V} (r:RelV x u) (q:RelV y u):x=y:=Option.some.inj (r.abs.symm.trans q.abs)
theorem Vals.inj:∀ {xs ys:List V} {us:List Value},Vals xs us->Vals ys us->xs=ys
 | _,_,_,.nil,.nil=>rfl
 | _,_,_,.cons r t,.cons r' t'=>by rw [r.inj r',Vals.inj t t']
section
variable {X:Cx} {pins:List (Addr×Obj)} {σ:St} {H:Hp} {s:Shared} {a:Addr} {xs ys:List V}
theorem SqL.of {K:W.Frag} (h:H a=some (.lst xs)):SqL K H a xs:=.inl (.inl h)
theorem SqT.of {K:W.Frag} (h:H a=some (.tup xs)):SqT K H a xs:=.inl (.inl h)
theorem Inv.list (I:Inv X pins σ H s) (h:SqL X.K H a xs):∃ its:List Value,Vals xs its/\PlainL s.heap a its.toArray/\xs.length<=sizeLine:=by
 rcases h with h|⟨o,its,n,hk,hc,hd,hs,hz,r⟩
 ·obtain ⟨z,its,n,r,e⟩:=h.ok I.hok
  exact ⟨its,r,⟨_,n,e,rfl,rfl,rfl⟩,z⟩
 ·refine ⟨its.toList,r,⟨o,n,I.kIn a o hk,hc,hd,by simpa using hs⟩,?_⟩
  have e:=r.length
  simp only [Array.length_toList] at e
  omega
theorem Inv.tuple (I:Inv X pins σ H s) (h:SqT X.K H a xs):∃ its:List Value,Vals xs its/\IsTup s.heap a its.toArray/\xs.length<=sizeLine:=by
 rcases h with h|⟨o,its,n,hk,hc,hs,hz,r⟩
 ·obtain ⟨z,its,r,p⟩:=h.ok I.hok
  exact ⟨its,r,p,z⟩
 ·refine ⟨its.toList,r,⟨o,I.kIn a o hk,hc,n,by simpa using hs⟩,?_⟩
  have e:=r.length
  simp only [Array.length_toList] at e
  omega
theorem Inv.list_inj (I:Inv X pins σ H s) (h:SqL X.K H a xs) (h':SqL X.K H a ys):xs=ys:=by
 obtain ⟨its,r,⟨o,n,e,_,_,d⟩,_⟩:=I.list h
 obtain ⟨its',r',⟨o',n',e',_,_,d'⟩,_⟩:=I.list h'
 rw [e] at e';cases e'
 rw [d] at d'
 injection d' with d1 _
 have:its=its':=by simpa using congrArg Array.toList d1
 subst this
 exact r.inj r'
theorem Inv.tuple_inj (I:Inv X pins σ H s) (h:SqT X.K H a xs) (h':SqT X.K H a ys):xs=ys:=by
 obtain ⟨its,r,⟨o,e,_,n,d⟩,_⟩:=I.tuple h
 obtain ⟨its',r',⟨o',e',_,n',d'⟩,_⟩:=I.tuple h'
 rw [e] at e';cases e'
 rw [d] at d'
 injection d' with d1 _
 have:its=its':=by simpa using congrArg Array.toList d1
 subst this
 exact r.inj r'
end
abbrev Cx.wish (X:Cx) (E:Value->Shared->Prop):Cx:={ X with xe:=E }
section
variable {X:Cx} {pins:List (Addr×Obj)} {σ:St} {H:Hp} {s:Shared} {E:Value->Shared->Prop}
end
section
variable {X:Cx} {st:Stmt} {cV:List Stmt} {t u:TS} {e:Expr} {te:TE} {pos:Pos}
def G8:TS:=fun D σ H=>D.nx σ H
def JA (t u:TS):TS:=fun D σ H=>t { D with nx:=u D } σ H
theorem BP:PSs X [] G8:=fun _ _ σ H _ I h=>wpAny_execs_nil ⟨σ,H,I,h⟩
theorem gQ (h1:PS X st t) (h2:PSs X cV u):PSs X (st::cV) (JA t u):=by
 intro pins s σ H D I h
 refine wpAny_execs_cons (thn (h1 pins s σ H { D with nx:=u D } I h) fun f s1 q=>?_)
 cases f with
 | next=>
  obtain ⟨σ',H',I',q⟩:=q
  exact h2 pins s1 σ' H' D I' q
 | ret v=>exact q
 | brk=>exact q
 | cont=>exact q
theorem mU (h1:PS X st t):PSs X [st] t:=by
 intro pins s σ H D I h
 refine wpAny_execs_cons (thn (h1 pins s σ H D I h) fun f s1 q=>?_)
 cases f with
 | next=>exact wpAny_execs_nil q
 | ret v=>exact q
 | brk=>exact q
 | cont=>exact q
theorem Inv.quiet (I:Inv X pins σ H s):interactive X.env=false:=by simp [interactive,I.ok.kind]
def HF (te:TE):TS:=fun D σ H=>te σ H fun _ H1=>D.nx σ H1
theorem iw (he:PE X e te) (hs:swapsWith e none pos.line X.env=pure false:=by rfl):PS X (.Expr e pos) (HF te):=by
 intro pins s σ H D I h
 exact wpAny_Expr_any (thn (he pins s σ H _ I h) fun v s1 ⟨x,H1,I1,r1,q1⟩=>⟨σ,H1,I1,q1⟩) I.quiet hs
def J2 (te:TE):TS:=fun D σ H=>te σ H D.rt
theorem oJ (he:PE X e te):PS X (.Return (some e) pos) (J2 te):=by
 intro pins s σ H D I h
 exact wpAny_Return_some (thn (he pins s σ H _ I h) fun v s1 ⟨x,H1,I1,r1,q1⟩=>⟨x,σ,H1,I1,r1,q1⟩)
def Jg (c:TT) (t u:TS):TS:=fun D σ H=>c σ H fun b H1=>if b=true then t D σ H1 else u D σ H1
theorem Fg {c:Expr} {a b:List Stmt} {tc:TT} (hc:PT X c tc) (ha:PSs X a t) (hb:PSs X b u):PS X (.If c a b pos) (Jg tc t u):=by
 intro pins s σ H D I h
 refine wpAny_If (thn (hc pins s σ H _ I h) fun d s1 ⟨H1,I1,q1⟩=>?_)
 cases d with
 | true=>exact ha pins s1 σ H1 D I1 q1
 | false=>exact hb pins s1 σ H1 D I1 q1
end
abbrev TG:=V->St->Hp->(St->Hp->Prop)->Prop
abbrev TGs:=List V->St->Hp->(St->Hp->Prop)->Prop
noncomputable def PG (X:Cx) (target:Expr) (t:TG):Prop:=
 ∀ (pins:List (Addr×Obj)) (s:Shared) (σ:St) (H:Hp) (v:V) (u:Value) (Q:St->Hp->Prop),Inv X pins σ H s->RelV v u->t v σ H Q->
  wpAny (model X.prog X.w) X.A (assign target X.env u) (fun _ s'=>∃ σ' H',Inv X pins σ' H' s'/\Q σ' H') X.xe s
noncomputable def PGs (X:Cx) (ts:List Expr) (t:TGs):Prop:=
 ∀ (pins:List (Addr×Obj)) (s:Shared) (σ:St) (H:Hp) (vs:List V) (us:List Value) (Q:St->Hp->Prop),Inv X pins σ H s->Vals vs us->t vs σ H Q->
  wpAny (model X.prog X.w) X.A (assignInOrder ((assignEach ts X.env).map (·.2)) us) (fun _ s'=>∃ σ' H',Inv X pins σ' H' s'/\Q σ' H') X.xe s
section
variable {X:Cx} {pos:Pos}
def yy (i:Nat):TG:=fun v σ H Q=>Q (σ.set i (some v)) H
theorem gz (hN:X.N.Nodup) (hi:X.N[i]?=some x) (hx:Loc X.env.scope x) (hf:X.fn x=true\/X.env.scope.names.lookup x=some .local:=by first|exact .inl rfl|exact .inr rfl|assumption):PG X (.Name x pos) (yy i):=by
 intro pins s σ H v u Q I r h
 exact wpAny_assign_Name (kS I hN hi hx r (fun s' I'=>⟨_,H,I',h⟩) hf)
def Ip:TGs:=fun vs σ H Q=>vs=[]/\Q σ H
def yk (t:TG) (u:TGs):TGs:=fun vs σ H Q=>∃ v r,vs=v::r/\t v σ H fun σ' H'=>u r σ' H' Q
theorem yP:PGs X [] Ip:=by
 intro pins s σ H vs us Q I r h
 obtain ⟨e,h⟩:=h
 subst e
 cases r
 exact assignInOrder_nil ⟨σ,H,I,h⟩
theorem pR {e:Expr} {t:TG} {u:TGs} (h1:PG X e t) (h2:PGs X es u)
 (hs:(assignEach (e::es) X.env).map (·.2)=assign e X.env::(assignEach es X.env).map (·.2):=by rfl):PGs X (e::es) (yk t u):=by
 intro pins s σ H vs us Q I r h
 obtain ⟨v,vr,e1,h⟩:=h
 subst e1
 cases r with
 | cons r rr=>
  rw [hs]
  refine assignInOrder_cons (thn (h1 pins s σ H _ _ _ I r h) fun _ s1 ⟨σ1,H1,I1,q1⟩=>?_)
  exact h2 pins s1 σ1 H1 _ _ Q I1 rr q1
def Hy (K:W.Frag) (n:Nat) (t:TGs):TG:=fun v σ H Q=>∃ a xs,v=.ref a/\SqT K H a xs/\xs.length=n/\t xs σ H Q
theorem BG {t:TGs} (hc:X.calm=true) (h:PGs X es t)
 (hn:(assignEach es X.env).length=n:=by rfl) (hst:(assignEach es X.env).findIdx? (·.1)=none:=by rfl):PG X (.Tuple es k pos) (Hy X.K n t):=by
 intro pins s σ H v u Q I r hw
 obtain ⟨a,xs,e1,hq,hl,hw⟩:=hw
 subst e1
 cases r
 obtain ⟨its,rv,ht,hz⟩:=I.tuple hq
 refine assign_Tuple_tuple (I.ok.hd hc) ht (by simp [hn,<- hl,rv.length]) hst fun h' hx=>?_
 have I1:Inv X pins σ H { s with heap:=h' }:=I.kept (t':=s.toks) fun b o e=>hx b o (Nat.ne_of_lt (Heap.lt_size e)) e
 exact h pins _ σ H xs _ Q I1 (by simpa using rv) hw
def JR (te:TE) (g:TG):TS:=fun D σ H=>te σ H fun x H1=>g x σ H1 D.nx
theorem qB {e:Expr} {te:TE} {g:TG} (he:PE X e te) (hg:PG X tg g) (hs:swapsWithSole [tg] e pos.line X.env=pure false:=by rfl) (hw:swappedStores [tg] e X.env=pure none:=by rfl)
 (h1:(assignEach [tg] X.env).map (·.2)=[assign tg X.env]:=by rfl):PS X (.Assign [tg] e pos) (JR te g):=by
 intro pins s σ H D I h
 refine wpAny_Assign_stores (thn (he pins s σ H _ I h) fun v s1 ⟨x,H1,I1,r1,q1⟩=>?_) hs hw
 rw [h1]
 exact thn (hg pins s1 σ H1 x v _ I1 r1 q1) fun _ s2 q=>q
def Jm (i j:Nat) (ta:TA):TS:=fun D σ H=>ta σ H fun vs H1=>∃ v w,vs=[v,w]/\D.nx ((σ.set i (some v)).set j (some w)) H1
theorem A6 {a b:Expr} {ta:TA} {px pt:Pos} {kt k2 pt2} (hc:X.calm=true) (hN:X.N.Nodup) (hi:X.N[i]?=some x) (hj:X.N[j]?=some y) (hij:i≠j)
 (hx:X.env.scope.names.lookup x=some .local) (hy:X.env.scope.names.lookup y=some .local) (ha:PA X [a,b] ta)
 (hw:swappedStores [.Tuple [.Name x px,.Name y py] kt pt] (.Tuple [a,b] k2 pt2) X.env=pure (some [x,y]))
 (hs:swapsWithSole [.Tuple [.Name x px,.Name y py] kt pt] (.Tuple [a,b] k2 pt2) pos.line X.env=pure false:=by rfl) :
  PS X (.Assign [.Tuple [.Name x px,.Name y py] kt pt] (.Tuple [a,b] k2 pt2) pos) (Jm i j ta):=by
 intro pins s σ H D I h
 rw [exec_Assign_arm]
 refine wpAny_bind (wpAny_standAt ?_)
 rw [hs]
 refine wpAny_bind (wpAny_pure ?_)
 rw [if_neg (by decide)]
 refine wpAny_bind (Tuple_ (thn (ha _ pins s σ H _ I h) fun us s1 ⟨vs,H1,I1,r1,q1⟩=>?_))
 obtain ⟨v,w,e1,q1⟩:=q1
 subst e1
 obtain ⟨u1,u2,rfl,rv,rw'⟩:∃ u1 u2,us=[u1,u2]/\RelV v u1/\RelV w u2:=by
  cases r1 with
  | cons p q=>
   cases q with
   | cons p' q'=>
    cases q'
    exact ⟨_,_,rfl,p,p'⟩
 refine wpAny_newObj_type ?_ (by show 2<=sizeLine;decide)
 have I2:Inv X pins σ H1 { s1 with heap:=s1.heap.push { cls:=.type "tuple",data:=.seq [u1,u2].toArray } }:=I1.kept (t':=s1.toks) fun b o e=>Heap.get?_push_of_some _ e
 rw [hw]
 refine wpAny_bind (wpAny_pure ?_)
 show wpAny (model X.prog X.w) X.A (do rule "assign.swapped-stores";let items <- unpackItems (.ref s1.heap.objs.size) 2 none;assignInOrder [fun v=>bindName X.env y v,fun v=>bindName X.env x v] items.reverse;pure Flow.next) _ _ _
 refine wpAny_bind (wpAny_rule (wpAny_bind (unpackItems_tuple (items:=#[u1,u2]) (I.ok.hd hc) (IsTup.new s1.heap _) fun h' hx'=>?_)))
 have I3:=I2.kept (h':=h') (t':=s1.toks) fun b o e=>hx' b o (Nat.ne_of_lt (Heap.lt_size e)) e
 show wpAny _ _ (assignInOrder [fun v=>bindName X.env y v,fun v=>bindName X.env x v] [u2,u1]>>=fun _=>pure Flow.next) _ _ _
 refine wpAny_bind (assignInOrder_cons (wpAny_bindName (kS I3 hN hj (.inl hy) rw' (fun s2 I4=>?_) (.inr hy))))
 refine assignInOrder_cons (wpAny_bindName (kS I4 hN hi (.inl hx) rv (fun s3 I5=>assignInOrder_nil (wpAny_pure ?_)) (.inr hx)))
 rw [List.set_comm _ _ (Ne.symm hij)] at I5
 exact ⟨_,H1,I5,q1⟩
end
section
variable {X:Cx} {pos:Pos}
end
structure It where
 go:Nat->Hp->Prop
 yld:Nat->Hp->V->Hp->Prop
 stop:Nat->Hp->Prop
def yV (X:Cx) (pins:List (Addr×Obj)) (H:Hp) (b:Addr):Prop:=
 H b=none/\b≠X.env.locals/\b ∉ X.fs/\(b∈X.ex\/X.L8.heap.objs.size<=b)/\(∀ x c,X.env.cells.lookup x=some c->c≠b)/\∀ p∈X.pn++pins,p.1≠b
theorem Inv.fpOk (I:Inv X pins σ H s) (hb:s.heap.objs.size<=b) (hn:H' b=none):yV X pins H' b:=by
 refine ⟨hn,Nat.ne_of_gt (Nat.lt_of_lt_of_le I.lt hb),I.nofs hb,.inr (Nat.le_trans I.sz hb),fun x c e z=>?_,fun p hp z=>?_⟩
 ·obtain ⟨v,q⟩:=I.cell x c e
  exact absurd (Nat.lt_of_lt_of_le q.lt (by rw [z];exact hb)) (Nat.lt_irrefl _)
 ·exact absurd (Nat.lt_of_lt_of_le (Heap.lt_size (I.pin p hp).1) (by rw [z];exact hb)) (Nat.lt_irrefl _)
structure Turn (P:Program) (w:World) (K:W.Frag) (tg:Expr) (J:It) (fp:List Addr) (it:Addr) (tn:Nat->Heap->Prop):Prop where
 mem:it∈fp
 obj:∀ i h,tn i h->∀ b∈fp,∃ o,h.get? b=some o/\∀ v,o.data ≠ .cell v
 keep:∀ i h h',tn i h->(∀ b∈fp,∀ o,h.get? b=some o->h'.get? b=some o)->tn i h'
 item:∀ (X:Cx),X.prog=P->X.w=w->X.K=K->X.calm=true->∀ (i:Nat) (pins:List (Addr×Obj)) (s:Shared) (σ:St) (H:Hp) (E:Value->Shared->Prop),Inv X pins σ H s->(∀ b∈fp,yV X pins H b)->tn i s.heap->J.go i H->
  wpAny (model P w) X.A (pyNext (.ref it)) (fun r s1=>∃ u,r=some u/\
   wpAny (model P w) X.A (letOwnedTupleGo tg (.ref it) u) (fun _ s2=>∃ x H',Inv X pins σ H' s2/\RelV x u/\J.yld i H x H'/\tn (i+1) s2.heap/\∀ b∈fp,H' b=none) E s1) E s
 done:∀ (X:Cx),X.prog=P->X.w=w->X.K=K->X.calm=true->∀ (i:Nat) (pins:List (Addr×Obj)) (s:Shared) (σ:St) (H:Hp) (E:Value->Shared->Prop),Inv X pins σ H s->(∀ b∈fp,yV X pins H b)->tn i s.heap->J.stop i H->
  wpAny (model P w) X.A (pyNext (.ref it)) (fun r s1=>r=none/\Inv X pins σ H s1) E s
 self:∀ (A:Around) (i:Nat) (s:Shared) (Q:Value->Shared->Prop) (E:Value->Shared->Prop),tn i s.heap->Q (.ref it) s->wpAny (model P w) A (pyIter (.ref it)) Q E s
abbrev TI:=St->Hp->(It->Hp->Prop)->Prop
noncomputable def PIE (X:Cx) (pins:List (Addr×Obj)) (σ:St) (tg:Expr) (R:It->Hp->Prop) (itv:Value) (s2:Shared):Prop:=
 ∃ (it:Addr) (fp:List Addr) (tn:Nat->Heap->Prop) (J:It) (H':Hp),itv=.ref it/\Inv X pins σ H' s2/\Turn X.prog X.w X.K tg J fp it tn/\tn 0 s2.heap/\(∀ b∈fp,yV X pins H' b)/\R J H'
noncomputable def PI (X:Cx) (tg iter:Expr) (wi:TI):Prop:=
 ∀ (pins:List (Addr×Obj)) (s:Shared) (σ:St) (H:Hp) (R:It->Hp->Prop),Inv X pins σ H s->wi σ H R->
  wpAny (model X.prog X.w) X.A (eval iter X.env) (fun v s1=>wpAny (model X.prog X.w) X.A (pyIter v) (PIE X pins σ tg R) X.xe s1) X.xe s
theorem ym {M : Model} {A : Around} {o : Obj} {n : String} {vs : Array Value} {Q : Unit -> Shared -> Prop} (ho : s.heap.get? it = some o) (hc : o.cls = .type n) (hd : o.data = .fields vs)
 (hn : ["enumerate", "zip", "dict_itemiterator", "dict_reverseitemiterator", "odict_iterator", "itertools.zip_longest", "itertools.pairwise"].contains n = false) (hQ : Q () s) : wpAny M A (letOwnedTupleGo tg (.ref it) u) Q E s := by
  unfold letOwnedTupleGo
  cases tg <;> first
    | exact wpAny_pure hQ
    | (cases u <;> first
        | exact wpAny_pure hQ
        | (refine wpAny_bind (wpAny_load ho ?_)
           rw [hc, hd]
           show wpAny M A (if (["enumerate", "zip", "dict_itemiterator", "dict_reverseitemiterator", "odict_iterator", "itertools.zip_longest", "itertools.pairwise"].contains n && vs[0]? == some (rawInt _)) = true then _ else _) Q E s
           rw [if_neg (by intro h; rw [hn, Bool.false_and] at h; cases h)]
           exact wpAny_pure hQ))

def Itl (K:W.Frag) (a:Addr):It:=
 ⟨fun i H=>∃ xs x,SqL K H a xs/\xs[i]?=some x,fun i H x H'=>H'=H/\∀ xs,SqL K H a xs->xs[i]?=some x,fun i H=>∃ xs,SqL K H a xs/\xs.length<=i⟩
def Itt (K:W.Frag) (a:Addr):It:=
 ⟨fun i H=>∃ xs x,SqT K H a xs/\xs[i]?=some x,fun i H x H'=>H'=H/\∀ xs,SqT K H a xs->xs[i]?=some x,fun i H=>∃ xs,SqT K H a xs/\xs.length<=i⟩
def Itr (lo:Int) (n:Nat):It:=⟨fun i _=>i<n,fun i H x H'=>H'=H/\x=.int (lo+i),fun i _=>n<=i⟩
theorem ze {w:World} {K:W.Frag} (a it:Addr):Turn P w K tg (Itl K a) [it] it (fun i h=>h.IsListIter it a i) where
 mem:=by simp
 obj:=fun i h st b hb=>by
  have e:b=it:=by simpa using hb
  subst e
  obtain ⟨o,e,c,d⟩:=st
  exact ⟨o,e,fun v z=>by rw [d] at z;cases z⟩
 keep:=fun i h h' st k=>st.at fun o e=>k it (by simp) o e
 item:=by
  intro X hP hw hK hc i pins s σ H E I hf st hg
  subst hP hw hK
  obtain ⟨xs,x,hq,hx⟩:=hg
  obtain ⟨its,rv,p,hz⟩:=I.list hq
  obtain ⟨u,hu,ru⟩:=rv.get hx
  obtain ⟨f0,f1,f2,f3,f4,f5⟩:=hf it (by simp)
  refine wpAny_pyNext_list_item st p.isList (x:=u) (by simpa using hu) fun h' st' sb=>?_
  have I1:Inv X pins σ H { s with heap:=h' }:=I.turned (t':=s.toks) (fun b o hb e=>(sb.2 b hb).trans e) f0 f1 f3 f4 f5
  obtain ⟨o,e,c,d⟩:=id st'
  exact ⟨u,rfl,ym (s:={ s with heap:=h' }) e c d (by decide) ⟨x,H,I1,ru,⟨rfl,fun ys hy=>by rw [I.list_inj hy hq];exact hx⟩,st',fun b hb=>(hf b hb).1⟩⟩
 done:=by
  intro X hP hw hK hc i pins s σ H E I hf st hg
  subst hP hw hK
  obtain ⟨xs,hq,hx⟩:=hg
  obtain ⟨its,rv,p,hz⟩:=I.list hq
  obtain ⟨f0,f1,f2,f3,f4,f5⟩:=hf it (by simp)
  have hl:=rv.length
  exact wpAny_pyNext_list_end (I.ok.hd hc) st p.isList (by simp;omega) fun h' eb=>⟨rfl,I.turned (t':=s.toks) (fun b o hb e=>eb b o hb e) f0 f1 f3 f4 f5⟩
 self:=fun _ _ _ _ _ st h=>wpAny_pyIter_listiter st h
theorem wE {w:World} {K:W.Frag} (a it:Addr):Turn P w K tg (Itt K a) [it] it (fun i h=>h.IsTupleIter it a i) where
 mem:=by simp
 obj:=fun i h st b hb=>by
  have e:b=it:=by simpa using hb
  subst e
  obtain ⟨o,e,c,d⟩:=st
  exact ⟨o,e,fun v z=>by rw [d] at z;cases z⟩
 keep:=fun i h h' st k=>st.at fun o e=>k it (by simp) o e
 item:=by
  intro X hP hw hK hc i pins s σ H E I hf st hg
  subst hP hw hK
  obtain ⟨xs,x,hq,hx⟩:=hg
  obtain ⟨its,rv,p,hz⟩:=I.tuple hq
  obtain ⟨u,hu,ru⟩:=rv.get hx
  obtain ⟨f0,f1,f2,f3,f4,f5⟩:=hf it (by simp)
  refine wpAny_pyNext_tuple_item st (show s.heap.IsTuple a its.toArray from p) (x:=u) (by simpa using hu) fun h' st' sb=>?_
  have I1:Inv X pins σ H { s with heap:=h' }:=I.turned (t':=s.toks) (fun b o hb e=>(sb.2 b hb).trans e) f0 f1 f3 f4 f5
  obtain ⟨o,e,c,d⟩:=id st'
  exact ⟨u,rfl,ym (s:={ s with heap:=h' }) e c d (by decide) ⟨x,H,I1,ru,⟨rfl,fun ys hy=>by rw [I.tuple_inj hy hq];exact hx⟩,st',fun b hb=>(hf b hb).1⟩⟩
 done:=by
  intro X hP hw hK hc i pins s σ H E I hf st hg
  subst hP hw hK
  obtain ⟨xs,hq,hx⟩:=hg
  obtain ⟨its,rv,p,hz⟩:=I.tuple hq
  obtain ⟨f0,f1,f2,f3,f4,f5⟩:=hf it (by simp)
  have hl:=rv.length
  exact wpAny_pyNext_tuple_end (I.ok.hd hc) st (show s.heap.IsTuple a its.toArray from p) (by simp;omega) fun h' eb=>⟨rfl,I.turned (t':=s.toks) (fun b o hb e=>eb b o hb e) f0 f1 f3 f4 f5⟩
 self:=fun _ _ _ _ _ st h=>wpAny_pyIter_tupleiter st h
theorem wb {w:World} {K:W.Frag} (it:Addr) (lo:Int) (n:Nat):Turn P w K tg (Itr lo n) [it] it (fun i h=>IsRangeIter h it (lo+(i:Nat) * 1) ((n:Int) - (i:Nat)) 1) where
 mem:=by simp
 obj:=fun i h st b hb=>by
  have e:b=it:=by simpa using hb
  subst e
  exact ⟨_,st,fun v z=>by
   have z':Data.fields _=Data.cell v:=z
   cases z'⟩
 keep:=fun i h h' st k=>k it (by simp) _ st
 item:=by
  intro X hP hw hK hc i pins s σ H E I hf st hg
  subst hP hw hK
  obtain ⟨f0,f1,f2,f3,f4,f5⟩:=hf it (by simp)
  have W:=Walks.range (prog:=X.prog) (w:=X.w) (I.ok.hd hc) it lo 1 n
  refine W.item i s _ _ hg st fun v h' tk hv st' kk=>?_
  obtain ⟨t,rfl⟩:=hv
  have I1:Inv X pins σ H { s with heap:=h',toks:=tk }:=I.turned (fun b o hb e=>kk b o (by simpa using hb) e) f0 f1 f3 f4 f5
  refine ⟨_,rfl,ym (s:={ s with heap:=h',toks:=tk }) (n:="range_iterator") st' rfl rfl (by decide) ⟨.int (lo+i),H,I1,⟨t,?_⟩,⟨rfl,rfl⟩,st',fun b hb=>(hf b hb).1⟩⟩
  rw [Int.mul_one]
 done:=by
  intro X hP hw hK hc i pins s σ H E I hf st hg
  subst hP hw hK
  obtain ⟨f0,f1,f2,f3,f4,f5⟩:=hf it (by simp)
  exact wpAny_pyNext_range_end (I.ok.hd hc) st (by have:n<=i:=hg;omega) fun h' eb=>⟨rfl,I.turned (t':=s.toks) (fun b o hb e=>eb b o hb e) f0 f1 f3 f4 f5⟩
 self:=fun _ _ _ _ _ st h=>wpAny_pyIter_rangeiter st h
end L2
namespace L2
open PySem PySem.Spec PyProof.Rows
section
variable {X:Cx} {tg:Expr}
theorem uP {R:It->Hp->Prop} {lo hi:Int} {t u v:Tok} {tk:Nat} (I:Inv X pins σ H s) (h1 : -(2 ^ 62)<=lo) (h2:lo<2 ^ 62) (h3 : -(2 ^ 62)<=hi) (h4:hi<2 ^ 62)
 (q:R (Itr lo (hi - lo).toNat) H):wpAny (model X.prog X.w) X.A (pyIter (.ref s.heap.objs.size)) (PIE X pins σ tg R) E { s with heap:=s.heap.push { cls:=.type "range",data:=.fields #[.int lo t,.int hi u,.int 1 v] },toks:=tk }:=by
 refine wpAny_pyIter_range (IsRange.new ..) (small_one h1 h2 h3 h4) ?_
 have I1:Inv X pins σ H { s with heap:=s.heap.push { cls:=.type "range",data:=.fields #[.int lo t,.int hi u,.int 1 v] },toks:=tk }:=I.kept fun b o e=>Heap.get?_push_of_some _ e
 refine ⟨(s.heap.push { cls:=.type "range",data:=.fields #[.int lo t,.int hi u,.int 1 v] }).objs.size,[(s.heap.push { cls:=.type "range",data:=.fields #[.int lo t,.int hi u,.int 1 v] }).objs.size],_,_,H,rfl,
  I1.kept (t':=tk) fun b o e=>Heap.get?_push_of_some _ e,wb _ lo (hi - lo).toNat,?_,fun b hb=>?_,q⟩
 ·have e1:lo+((0:Nat):Int) * 1=lo:=by simp
  have e2:(((hi - lo).toNat:Nat):Int) - ((0:Nat):Int)=Builtin.Range.rangeSize lo hi 1:=by rw [rangeSize_one];split <;> omega
  show IsRangeIter _ _ (lo+((0:Nat):Int) * 1) ((((hi - lo).toNat:Nat):Int) - ((0:Nat):Int)) 1
  rw [e1,e2]
  exact Heap.get?_push_size _ rfl
 ·have e:b=(s.heap.push { cls:=.type "range",data:=.fields #[.int lo t,.int hi u,.int 1 v] }).objs.size:=by simpa using hb
  subst e
  exact I1.fpOk (Nat.le_refl _) (I1.hok.fresh (Nat.le_refl _))
def Hz (ta:TA):TI:=fun σ H R=>ta σ H fun vs H1=>∃ j:Int,vs=[.int j]/\-(2 ^ 62)<=j/\j<2 ^ 62/\R (Itr 0 j.toNat) H1
def HB (ta:TA):TI:=fun σ H R=>ta σ H fun vs H1=>∃ i j:Int,vs=[.int i,.int j]/\(-(2 ^ 62)<=i/\i<2 ^ 62/\-(2 ^ 62)<=j/\j<2 ^ 62)/\R (Itr i (j - i).toNat) H1
theorem yF {a:Expr} {ta:TA} (hg:Gl X "range") (hm:X.mg "range"=none) (ha:PA X [a] ta) (hs:starEach [a] X.env=[(false,eval a X.env)]:=by rfl):PI X tg (.Call (.Name "range" p) [a] [] pos) (Hz ta):=by
 intro pins s σ H R I h
 refine Call_ (qA I hg hm boot_range (callWith_type1 (thn (ha pos pins s σ H _ I h) fun us s1 ⟨vs,H1,I1,r1,q1⟩=>?_) hs rfl))
 obtain ⟨j,e,q1,q2,q⟩:=q1
 subst e
 cases r1 with
 | cons r rr=>
  cases rr
  obtain ⟨t,rfl⟩:=r
  exact call_range_1 (uP I1 (by omega) (by omega) q1 q2 (by simpa using q))
theorem zq {a b:Expr} {ta:TA} (hg:Gl X "range") (hm:X.mg "range"=none) (ha:PA X [a,b] ta) (hs:starEach [a,b] X.env=[(false,eval a X.env),(false,eval b X.env)]:=by rfl) (hs2:starEach [b] X.env=[(false,eval b X.env)]:=by rfl) :
  PI X tg (.Call (.Name "range" p) [a,b] [] pos) (HB ta):=by
 intro pins s σ H R I h
 refine Call_ (qA I hg hm boot_range (callWith_type1 (thn (ha pos pins s σ H _ I h) fun us s1 ⟨vs,H1,I1,r1,q1⟩=>?_) (by rw [hs,hs2]) (by rw [hs2];rfl)))
 obtain ⟨i,j,e,⟨q1,q2,q3,q4⟩,q⟩:=q1
 subst e
 cases r1 with
 | cons r rr=>
  cases rr with
  | cons r' rr=>
   cases rr
   obtain ⟨t,rfl⟩:=r
   obtain ⟨t',rfl⟩:=r'
   exact call_range_2 (uP I1 q1 q2 q3 q4 q)
noncomputable def JM (wi:TI) (g:TG) (tb:TS):TS:=fun D σ H=>wi σ H fun J H1=>∃ W:Nat->Nat->St->Hp->Prop,(∃ m,W 0 m σ H1)/\∀ i m σ H,W i m σ H->
 (J.stop i H/\D.nx σ H)\/(J.go i H/\∃ N:St->Hp->Prop,(∀ σ' H',N σ' H'->∃ m',m'<m/\W (i+1) m' σ' H')/\∀ x H',J.yld i H x H'->g x σ H' fun σ2 H2=>tb { D with nx:=N,ct:=N,bk:=D.nx } σ2 H2)
def rk (fp:List Addr) (h:Heap):List (Addr×Obj):=fp.filterMap fun b=>(h.get? b).map fun o=>(b,o)
theorem jU {o:Obj} (hb:b∈fp) (e:h.get? b=some o):(b,o)∈rk fp h:=List.mem_filterMap.mpr ⟨b,hb,by rw [e];rfl⟩
theorem zi {p:Addr×Obj} (hp:p∈rk fp h):p.1∈fp/\h.get? p.1=some p.2:=by
 obtain ⟨b,hb,e⟩:=List.mem_filterMap.mp hp
 cases q:h.get? b with
 | none=>rw [q] at e;cases e
 | some o=>
  rw [q] at e
  have e':(b,o)=p:=Option.some.inj e
  subst e'
  exact ⟨hb,q⟩
theorem Inv.pinned (I:Inv X pins σ H s) (hf:∀ b∈fp,yV X pins H b) (ho:∀ b∈fp,∃ o,s.heap.get? b=some o/\∀ v,o.data ≠ .cell v):Inv X (pins++rk fp s.heap) σ H s:=
 I.pins_of fun p hp=>(List.mem_append.mp hp).elim (fun z=>I.pin p (List.mem_append_right _ z)) fun z=>by
  obtain ⟨hb,e⟩:=zi z
  obtain ⟨f0,f1,f2,_⟩:=hf p.1 hb
  obtain ⟨o,e',d⟩:=ho p.1 hb
  rw [e] at e';cases e'
  exact ⟨e,f0,f1,f2,d⟩
theorem Inv.unpinned {pl:List (Addr×Obj)} (I:Inv X (pins++pl) σ H s):Inv X pins σ H s:=I.pins_of fun p hp=>I.pin p (List.mem_append_right _ (List.mem_append_left _ hp))
theorem yZ {wi:TI} {g:TG} {tb:TS} (hp:PassesOwn (model X.prog X.w) X.A X.env X.xe) (hc:X.calm=true) (hi:PI X tg iter wi) (hg:PG X tg g) (hb:PSs X body tb)
 (hs:∀ x,foldedSetIterable iter X.env x=pure x:=by intro _;rfl):PS X (.For tg iter body [] pos) (JM wi g tb):=by
 intro pins s σ H D I h
 refine wpAny_For (thn (hi pins s σ H _ I h) fun v s1 h1=>thn h1 fun itv s2 h2=>?_) hs
 obtain ⟨it,fp,tn,J,H2,e,I2,T,st2,f2,W,⟨m0,w0⟩,turn⟩:=h2
 subst e
 have stat:∀ {H':Hp},(∀ b∈fp,H' b=none)->∀ b∈fp,yV X pins H' b:=fun hn b hb=>⟨hn b hb,(f2 b hb).2⟩
 refine codeAny_forLoop_any (fun n s'=>∃ i σ' H',Inv X pins σ' H' s'/\tn i s'.heap/\(∀ b∈fp,H' b=none)/\W i n σ' H') ?_ m0 ⟨0,σ,H2,I2,st2,fun b hb=>(f2 b hb).1,w0⟩
 rintro n s3 ⟨i,σ3,H3,I3,st3,fr3,w3⟩
 rcases turn i n σ3 H3 w3 with ⟨stop,qn⟩|⟨go,N,hN,step⟩
 ·refine wpAny_passesOwn hp (thn (T.done X rfl rfl rfl hc i pins s3 σ3 H3 X.xe I3 (stat fr3) st3 stop) fun r s4 ⟨hr,I4⟩=>?_)
  subst hr
  exact wpAny_execs_nil ⟨σ3,H3,I4,qn⟩
 ·refine wpAny_passesOwn hp (thn (T.item X rfl rfl rfl hc i pins s3 σ3 H3 X.xe I3 (stat fr3) st3 go) fun r s4 ⟨u,hr,h4⟩=>?_)
  subst hr
  refine wpAny_passesOwn hp (thn h4 fun _ s5 ⟨x,H5,I5,r5,y5,st5,fr5⟩=>?_)
  have I5':=I5.pinned (stat fr5) (T.obj _ _ st5)
  refine wpAny_passesOwn hp (thn (hg _ s5 σ3 H5 x u _ I5' r5 (step x H5 y5)) fun _ s6 ⟨σ6,H6,I6,q6⟩=>?_)
  refine wpAny_passesOwn hp (thn (hb _ s6 σ6 H6 _ I6 q6) fun f s7 q7=>?_)
  have again:∀ {σ7:St} {H7:Hp},Inv X (pins++rk fp s5.heap) σ7 H7 s7->N σ7 H7->∃ m,m<n/\∃ i σ' H',Inv X pins σ' H' s7/\tn i s7.heap/\(∀ b∈fp,H' b=none)/\W i m σ' H':=fun {σ7 H7} I7 n7=>by
   obtain ⟨m',hm,w7⟩:=hN σ7 H7 n7
   refine ⟨m',hm,i+1,σ7,H7,I7.unpinned,T.keep _ _ _ st5 fun b hb o e=>(I7.pin (b,o) (List.mem_append_right _ (List.mem_append_right _ (jU hb e)))).1,fun b hb=>?_,w7⟩
   obtain ⟨o,e,d⟩:=T.obj _ _ st5 b hb
   exact (I7.pin (b,o) (List.mem_append_right _ (List.mem_append_right _ (jU hb e)))).2.1
  cases f with
  | next=>obtain ⟨σ7,H7,I7,n7⟩:=q7;exact again I7 n7
  | cont=>obtain ⟨σ7,H7,I7,n7⟩:=q7;exact again I7 n7
  | brk=>obtain ⟨σ7,H7,I7,q7⟩:=q7;exact ⟨σ7,H7,I7.unpinned,q7⟩
  | ret v=>obtain ⟨x7,σ7,H7,I7,r7,q7⟩:=q7;exact ⟨x7,σ7,H7,I7.unpinned,r7,q7⟩
end
end L2
namespace L2
open PySem PySem.Spec PyProof.Rows
abbrev R2:=V->V->Hp->VK->Prop
noncomputable def OpR (X:Cx) (f:Value->Value->Sem Value) (r:R2):Prop:=
 ∀ (pins:List (Addr×Obj)) (s:Shared) (σ:St) (H:Hp) (x y:V) (v u:Value) (Q:VK),Inv X pins σ H s->RelV x v->RelV y u->r x y H Q->
  wpAny (model X.prog X.w) X.A (f v u) (EP X pins σ Q) X.xe s
noncomputable def UnR (X:Cx) (f:Value->Sem Value) (r:V->Hp->VK->Prop):Prop:=
 ∀ (pins:List (Addr×Obj)) (s:Shared) (σ:St) (H:Hp) (x:V) (v:Value) (Q:VK),Inv X pins σ H s->RelV x v->r x H Q->
  wpAny (model X.prog X.w) X.A (f v) (EP X pins σ Q) X.xe s
noncomputable def jW (X:Cx) (f:Value) (r:List V->Hp->VK->Prop):Prop:=
 ∀ (pins:List (Addr×Obj)) (s:Shared) (σ:St) (H:Hp) (xs:List V) (us:List Value) (Q:VK),Inv X pins σ H s->Vals xs us->r xs H Q->
  wpAny (model X.prog X.w) X.A (call f us) (EP X pins σ Q) X.xe s
noncomputable def IY (X:Cx) (r:V->Hp->(Bool->Hp->Prop)->Prop):Prop:=
 ∀ (pins:List (Addr×Obj)) (s:Shared) (σ:St) (H:Hp) (x:V) (v:Value) (Q:Bool->Hp->Prop),Inv X pins σ H s->RelV x v->r x H Q->
  wpAny (model X.prog X.w) X.A (truthy v) (TP X pins σ Q) X.xe s
def tOp (r:R2) (ta tb:TE):TE:=fun σ H Q=>ta σ H fun x H1=>tb σ H1 fun y H2=>r x y H2 Q
def tUn (r:V->Hp->VK->Prop) (ta:TE):TE:=fun σ H Q=>ta σ H fun x H1=>r x H1 Q
def rI (C:Int->Int->Prop) (g:Int->Int->V):R2:=fun x y H Q=>∃ i j,x=.int i/\y=.int j/\C i j/\Q (g i j) H
def rI0 (g:Int->Int->V):R2:=fun x y H Q=>∃ i j,x=.int i/\y=.int j/\Q (g i j) H
def rU (g:Int->V):V->Hp->VK->Prop:=fun x H Q=>∃ i,x=.int i/\Q (g i) H
section
variable {X:Cx} {a b c:Expr} {ta tb tc:TE} {pos:Pos}
theorem HL (ha:PE X a ta) (hb:PE X b tb) {R:V->V->Hp->Prop} (I:Inv X pins σ H s)
 (h:ta σ H fun x H1=>tb σ H1 fun y H2=>R x y H2) {Q:Value->Shared->Prop} {f:Value->Value->Sem Value}
 (hf:∀ v u s2 x y H2,Inv X pins σ H2 s2->RelV x v->RelV y u->R x y H2->wpAny (model X.prog X.w) X.A (f v u) Q X.xe s2) :
  wpAny (model X.prog X.w) X.A (eval a X.env) (fun v K2=>wpAny (model X.prog X.w) X.A (eval b X.env) (fun u K3=>wpAny (model X.prog X.w) X.A (f v u) Q X.xe K3) X.xe K2) X.xe s:=by
 refine thn (ha pins s σ H _ I h) fun v s1 ⟨x,H1,I1,r1,q1⟩=>?_
 refine thn (hb pins s1 σ H1 _ I1 q1) fun u s2 ⟨y,H2,I2,r2,q2⟩=>?_
 exact hf v u s2 x y H2 I2 r1 r2 q2
theorem Ih {op:Operator} {r:R2} (ho:OpR X (binaryOp op) r) (ha:PE X a ta) (hb:PE X b tb):PE X (.BinOp a op b pos) (tOp r ta tb):=by
 intro pins s σ H Q I h
 exact wpAny_BinOp (HL ha hb I h fun v u s2 x y H2 I2 rx ry q=>ho pins s2 σ H2 x y v u Q I2 rx ry q)
theorem HH {op:UnaryOp} {r:V->Hp->VK->Prop} (ho:UnR X (unaryOp op) r) (ha:PE X a ta):PE X (.UnaryOp op a pos) (tUn r ta):=by
 intro pins s σ H Q I h
 exact UnaryOp_ (thn (ha pins s σ H _ I h) fun v s1 ⟨x,H1,I1,r1,q1⟩=>ho pins s1 σ H1 x v Q I1 r1 q1)
theorem opI {f:Value->Value->Sem Value} {C:Int->Int->Prop} {g:Int->Int->Int}
 (rule:∀ (i j:Int) (t u:Tok) (s:Shared) (Q:Value->Shared->Prop) (E:Value->Shared->Prop),C i j->Q (.int (g i j) s.toks) { s with toks:=s.toks+1 }->wpAny (model X.prog X.w) X.A (f (.int i t) (.int j u)) Q E s) :
  OpR X f (rI C fun i j=>.int (g i j)):=by
 intro pins s σ H x y v u Q I rx ry h
 obtain ⟨i,j,rfl,rfl,hc,q⟩:=h
 obtain ⟨t,rfl⟩:=rx
 obtain ⟨t',rfl⟩:=ry
 exact rule i j t t' s _ _ hc ⟨.int (g i j),H,I.tok _,⟨_,rfl⟩,q⟩
theorem IA {f:Value->Value->Sem Value} {g:Int->Int->Int}
 (rule:∀ (i j:Int) (t u:Tok) (s:Shared) (Q:Value->Shared->Prop) (E:Value->Shared->Prop),Q (.int (g i j) s.toks) { s with toks:=s.toks+1 }->wpAny (model X.prog X.w) X.A (f (.int i t) (.int j u)) Q E s) :
  OpR X f (rI0 fun i j=>.int (g i j)):=by
 intro pins s σ H x y v u Q I rx ry h
 obtain ⟨i,j,rfl,rfl,q⟩:=h
 obtain ⟨t,rfl⟩:=rx
 obtain ⟨t',rfl⟩:=ry
 exact rule i j t t' s _ _ ⟨.int (g i j),H,I.tok _,⟨_,rfl⟩,q⟩
theorem Gr {f:Value->Value->Sem Value} {g:Int->Int->Bool}
 (rule:∀ (i j:Int) (t u:Tok) (s:Shared) (Q:Value->Shared->Prop) (E:Value->Shared->Prop),Q (.bool (g i j)) s->wpAny (model X.prog X.w) X.A (f (.int i t) (.int j u)) Q E s) :
  OpR X f (rI0 fun i j=>.bl (g i j)):=by
 intro pins s σ H x y v u Q I rx ry h
 obtain ⟨i,j,rfl,rfl,q⟩:=h
 obtain ⟨t,rfl⟩:=rx
 obtain ⟨t',rfl⟩:=ry
 exact rule i j t t' s _ _ ⟨.bl (g i j),H,I,rfl,q⟩
def Jw (i j:Int):Prop:=0<j/\j<1073741824
def CMul (i j:Int):Prop:=(-(2 ^ 64)<i/\i<2 ^ 64)\/(-(2 ^ 64)<j/\j<2 ^ 64)
theorem CMul.ok {i j:Int} (h:CMul i j):IntMulOk i j:=by
 rcases h with ⟨h1,h2⟩|⟨h1,h2⟩
 ·exact .of_left (intBits_le_64 h1 h2)
 ·exact .of_right (intBits_le_64 h1 h2)
theorem op_add:OpR X (binaryOp .Add) (rI0 fun i j=>.int (i+j)):=IA fun _ _ _ _ _ _ _ q=>add_int q
theorem FF:OpR X (binaryOp .Sub) (rI0 fun i j=>.int (i - j)):=IA fun _ _ _ _ _ _ _ q=>sub_int q
theorem op_mul:OpR X (binaryOp .Mult) (rI CMul fun i j=>.int (i * j)):=opI fun _ _ _ _ _ _ _ hc q=>mul_int q hc.ok
theorem Dy:OpR X (binaryOp .FloorDiv) (rI Jw fun i j=>.int (i / j)):=opI fun i j _ _ _ _ _ hc q=>by
 have h1:(0:Int)<j:=hc.1
 have h2:j<1073741824:=hc.2
 exact floordiv_int (by omega) (by rw [Int.fdiv_eq_ediv_of_nonneg i (by omega)];exact q) (.inl (PyProof.noPylong_small (by omega)))
theorem Go:OpR X (binaryOp .Mod) (rI (fun _ j=>0<j) fun i j=>.int (i % j)):=opI fun i j _ _ _ _ _ hc q=>by
 have h1:(0:Int)<j:=hc
 exact mod_int' (by omega) (by rw [Int.fmod_eq_emod_of_nonneg i (by omega)];exact q)
theorem unI {f:Value->Sem Value} {g:Int->Int}
 (rule:∀ (i:Int) (t:Tok) (s:Shared) (Q:Value->Shared->Prop) (E:Value->Shared->Prop),Q (.int (g i) s.toks) { s with toks:=s.toks+1 }->wpAny (model X.prog X.w) X.A (f (.int i t)) Q E s) :
  UnR X f (rU fun i=>.int (g i)):=by
 intro pins s σ H x v Q I rx h
 obtain ⟨i,rfl,q⟩:=h
 obtain ⟨t,rfl⟩:=rx
 exact rule i t s _ _ ⟨.int (g i),H,I.tok _,⟨_,rfl⟩,q⟩
theorem F2:UnR X (unaryOp .USub) (rU fun i=>.int (-i)):=unI fun _ _ _ _ _ q=>neg_int q
end
section
variable {X:Cx} {a b c:Expr} {ta tb tc:TE} {pos:Pos}
theorem BE {Q:VK} {k k':Bool} (I:Inv X pins σ H s) (q:Q (.bl k) H) (e:k=k'):EP X pins σ Q (.bool k') s:=by
 subst e
 exact ⟨.bl k,H,I,rfl,q⟩
theorem op_lt:OpR X (compareOp .Lt) (rI0 fun i j=>.bl (decide (i<j))):=Gr fun _ _ _ _ _ _ _ q=>lt_int q
theorem op_le:OpR X (compareOp .LtE) (rI0 fun i j=>.bl (decide (i<=j))):=Gr fun _ _ _ _ _ _ _ q=>le_int q
theorem Ia:OpR X (compareOp .Gt) (rI0 fun i j=>.bl (decide (j<i))):=Gr fun _ _ _ _ _ _ _ q=>gt_int q
theorem Ij:OpR X (compareOp .GtE) (rI0 fun i j=>.bl (decide (j<=i))):=Gr fun _ _ _ _ _ _ _ q=>ge_int q
theorem zc:OpR X (compareOp .Lt) (fun x y H Q=>∃ i j,x=.str i/\y=.str j/\Q (.bl (decide (i.cps.toList<j.cps.toList))) H):=by
 intro pins s σ H x y v u Q I rx ry h
 obtain ⟨i,j,rfl,rfl,q⟩:=h
 obtain ⟨t,rfl⟩:=rx
 obtain ⟨t',rfl⟩:=ry
 exact lt_str (BE I q rfl)
theorem OpR.or {f:Value->Value->Sem Value} {r r':R2} (h:OpR X f r) (h':OpR X f r'):OpR X f (fun x y H Q=>r x y H Q\/r' x y H Q):=by
 intro pins s σ H x y v u Q I rx ry q
 rcases q with q|q
 ·exact h pins s σ H x y v u Q I rx ry q
 ·exact h' pins s σ H x y v u Q I rx ry q
theorem ic (b:Expr) {op:CmpOp} (h:op ≠ .In:=by decide) (h2:op ≠ .NotIn:=by decide):behindInMarks op b=false:=by
 have e1:(op==CmpOp.In)=false:=by cases op <;> first|rfl|exact absurd rfl h
 have e2:(op==CmpOp.NotIn)=false:=by cases op <;> first|rfl|exact absurd rfl h2
 cases b <;> simp [behindInMarks,e1,e2]
theorem Cq {op:CmpOp} {r:R2} (ho:OpR X (compareOp op) r) (ha:PE X a ta) (hb:PE X b tb) (hm:behindInMarks op b=false):PE X (.Compare a [op] [b] pos) (tOp r ta tb):=by
 intro pins s σ H Q I h
 exact wpAny_Compare1 (HL ha hb I h fun v u s2 x y H2 I2 rx ry q=>ho pins s2 σ H2 x y v u Q I2 rx ry q) hm
def Gg (t:TE):TT:=fun σ H Q=>t σ H fun x H'=>∃ k,x=.bl k/\Q k H'
theorem xO {op:CmpOp} {r:R2} (ho:OpR X (compareOp op) r) (ha:PE X a ta) (hb:PE X b tb) (hm:behindInMarks op b=false):PT X (.Compare a [op] [b] pos) (Gg (tOp r ta tb)):=by
 intro pins s σ H Q I h
 refine wpAny_isTrue_Compare1 (thn (ha pins s σ H _ I h) fun v s1 ⟨x,H1,I1,r1,q1⟩=>thn (hb pins s1 σ H1 _ I1 q1) fun u s2 ⟨y,H2,I2,r2,q2⟩=>
  thn (ho pins s2 σ H2 x y v u _ I2 r1 r2 q2) fun c s3 ⟨z,H3,I3,r3,k,e,q3⟩=>?_) hm
 subst e
 cases r3
 exact wpAny_truthy_bool ⟨H3,I3,q3⟩
def Bb (r r':R2) (ta tb tc:TE):TE:=fun σ H Q=>ta σ H fun x H1=>tb σ H1 fun y H2=>r x y H2 fun z H3=>∃ k,z=.bl k/\
 (if k=true then tc σ H3 fun w' H4=>r' y w' H4 Q else Q (.bl false) H3)
theorem AY {op op':CmpOp} {r r':R2} (ho:OpR X (compareOp op) r) (ho':OpR X (compareOp op') r') (ha:PE X a ta) (hb:PE X b tb) (hc:PE X c tc)
 (hm:lastMarks [op,op'] [b,c]=false:=by with_unfolding_all rfl):PE X (.Compare a [op,op'] [b,c] pos) (Bb r r' ta tb tc):=by
 intro pins s σ H Q I h
 refine Compare_chain (thn (ha pins s σ H _ I h) fun v s1 ⟨x,H1,I1,r1,q1⟩=>chain_link (thn (hb pins s1 σ H1 _ I1 q1) fun u s2 ⟨y,H2,I2,r2,q2⟩=>
  thn (ho pins s2 σ H2 x y v u _ I2 r1 r2 q2) fun d s3 ⟨z,H3,I3,r3,k,e,q3⟩=>?_)) hm
 subst e
 cases r3
 refine wpAny_truthy_bool ?_
 cases k with
 | false=>exact ite_ff ⟨.bl false,H3,I3,rfl,q3⟩
 | true=>exact ite_tt (chain_last (thn (hc pins s3 σ H3 _ I3 q3) fun w' s4 ⟨z',H4,I4,r4,q4⟩=>ho' pins s4 σ H4 y z' u w' Q I4 r2 r4 q4))
theorem AB {op op':CmpOp} {r r':R2} (ho:OpR X (compareOp op) r) (ho':OpR X (compareOp op') r') (ha:PE X a ta) (hb:PE X b tb) (hc:PE X c tc)
 (hm:lastMarks [op,op'] [b,c]=false:=by with_unfolding_all rfl):PT X (.Compare a [op,op'] [b,c] pos) (Gg (Bb r r' ta tb tc)):=by
 intro pins s σ H Q I h
 refine isTrue_chain (thn (ha pins s σ H _ I h) fun v s1 ⟨x,H1,I1,r1,q1⟩=>test_link (thn (hb pins s1 σ H1 _ I1 q1) fun u s2 ⟨y,H2,I2,r2,q2⟩=>
  thn (ho pins s2 σ H2 x y v u _ I2 r1 r2 q2) fun d s3 ⟨z,H3,I3,r3,k,e,q3⟩=>?_)) hm
 subst e
 cases r3
 refine wpAny_truthy_bool ?_
 cases k with
 | false=>
  obtain ⟨k',e',q'⟩:=q3
  cases e'
  exact ite_ff ⟨H3,I3,q'⟩
 | true=>
  refine ite_tt (test_last (thn (hc pins s3 σ H3 _ I3 q3) fun w' s4 ⟨z',H4,I4,r4,q4⟩=>thn (ho' pins s4 σ H4 y z' u w' _ I4 r2 r4 q4) fun d' s5 ⟨z2,H5,I5,r5,k2,e2,q5⟩=>?_))
  subst e2
  cases r5
  exact wpAny_truthy_bool ⟨H5,I5,q5⟩
noncomputable def Iz (K:W.Frag) (x:V) (H:Hp) (k:Bool):Prop:=
 match x with
 | .non=>k=false
 | .bl b=>k=b
 | .int i=>k=(i != 0)
 | .str y=>y.length<=sizeLine/\k=((y.length:Int) != 0)
 | .byt y=>y.size<=sizeLine/\k=((y.size:Int) != 0)
 | .ref p=>(∃ xs,SqL K H p xs/\k = !xs.isEmpty)\/(∃ xs,SqT K H p xs/\k = !xs.isEmpty)\/∃ kvs,H p=some (.dK kvs)/\k = !kvs.isEmpty
 | _=>False
theorem wU {κ:Type} {kvs:List (κ×V)} {vs:List (κ×Value)} (r:KV kvs vs):(!vs.isEmpty) = !kvs.isEmpty:=by
 cases r <;> rfl
theorem ox (r:Vals xs its):(!its.toArray.isEmpty) = !xs.isEmpty:=by
 cases r <;> simp
theorem nB:(sizeLine:Nat)<2 ^ 63:=by rw [sizeLine_eq];decide
theorem Fa:IY X (fun x H Q=>∃ k,Iz X.K x H k/\Q k H):=by
 intro pins s σ H x v Q I rx h
 obtain ⟨k,e,q⟩:=h
 have hl:=nB
 have hs:sizeLine=16777216:=sizeLine_eq
 cases x with
 | non=>
  cases rx
  have e':k=false:=e
  subst e'
  exact truthy_none ⟨H,I,q⟩
 | bl b=>
  cases rx
  have e':k=b:=e
  subst e'
  exact wpAny_truthy_bool ⟨H,I,q⟩
 | int i=>
  obtain ⟨t,rfl⟩:=rx
  have e':k=(i != 0):=e
  subst e'
  exact PySem.P.truthy_int ⟨H,I,q⟩
 | str y=>
  obtain ⟨t,rfl⟩:=rx
  obtain ⟨hy,e'⟩:y.length<=sizeLine/\k=((y.length:Int) != 0):=e
  subst e'
  exact PySem.P.truthy_str (by omega) ⟨H,I.tok _,q⟩
 | byt y=>
  obtain ⟨t,rfl⟩:=rx
  obtain ⟨hy,e'⟩:y.size<=sizeLine/\k=((y.size:Int) != 0):=e
  subst e'
  exact W.truthy_bytes (by omega) ⟨H,I.tok _,q⟩
 | ref p=>
  cases rx
  have e':(∃ xs,SqL X.K H p xs/\k = !xs.isEmpty)\/(∃ xs,SqT X.K H p xs/\k = !xs.isEmpty)\/∃ kvs,H p=some (.dK kvs)/\k = !kvs.isEmpty:=e
  rcases e' with ⟨xs,hx,e'⟩|⟨xs,hx,e'⟩|⟨kvs,hx,e'⟩
  ·subst e'
   obtain ⟨its,r,pl,hz⟩:=I.list hx
   have hlen:=r.length
   exact wpAny_truthy_list pl.isList (by simp only [List.size_toArray];omega) ⟨H,I.tok _,by rw [ox r];exact q⟩
  ·subst e'
   obtain ⟨its,r,pl,hz⟩:=I.tuple hx
   have hlen:=r.length
   exact truthy_tuple pl (by simp only [List.size_toArray];omega) ⟨H,I.tok _,by rw [ox r];exact q⟩
  ·subst e'
   obtain ⟨hz,hS,vs,r,m⟩:kvs.length<=sizeLine/\(p==sysModules)=false/\∃ vs,KV kvs vs/\s.heap.DictOf (sV X.prog X.w) p vs:=I.hok p _ hx
   have hlen:kvs.length=vs.length:=Paired.length r
   exact wpAny_truthy_dict hS m (by omega) ⟨H,I.tok _,by rw [wU r];exact q⟩
 | _=>exact (show False from e).elim
theorem Aa (ha:PE X a ta) (he:∀ whole,isTrue a X.env whole=(do let v <- whole;standAt a.pos;holding [v] (truthy v))) :
  PT X a (fun σ H Q=>ta σ H fun x H'=>∃ k,Iz X.K x H' k/\Q k H'):=by
 intro pins s σ H Q I h
 exact isTrue_plain (thn (ha pins s σ H _ I h) fun v s1 ⟨x,H1,I1,r1,q1⟩=>Fa pins s1 σ H1 x v Q I1 r1 q1) (he _)
theorem op_add_str:OpR X (binaryOp .Add) (fun x y H Q=>∃ i j,x=.str i/\y=.str j/\i.length+j.length<=sizeLine/\Q (.str (i++j)) H):=by
 intro pins s σ H x y v u Q I rx ry h
 obtain ⟨i,j,rfl,rfl,hz,q⟩:=h
 obtain ⟨t,rfl⟩:=rx
 obtain ⟨t',rfl⟩:=ry
 exact add_str (fun t' tk=>⟨.str (i++j),H,I.tok _,⟨_,rfl⟩,q⟩) hz
theorem AR {x:V} (r:Vals [x] us):∃ u,us=[u]/\RelV x u:=by
 cases r with
 | cons r1 r2=>cases r2;exact ⟨_,rfl,r1⟩
def Jz (K:W.Frag) (x:V) (H:Hp) (n:Nat):Prop:=
 match x with
 | .str y=>y.length<=sizeLine/\n=y.length
 | .byt y=>y.size<=sizeLine/\n=y.size
 | .ref p=>(∃ xs,SqL K H p xs/\n=xs.length)\/∃ xs,SqT K H p xs/\n=xs.length
 | _=>False
theorem Ay:jW X (.builtin "len") (fun xs H Q=>∃ x n,xs=[x]/\Jz X.K x H n/\Q (.int n) H):=by
 intro pins s σ H xs us Q I r h
 obtain ⟨x,n,rfl,e,q⟩:=h
 obtain ⟨u,rfl,rx⟩:=AR r
 have hl:=nB
 have hs:sizeLine=16777216:=sizeLine_eq
 cases x with
 | str y=>
  obtain ⟨t,rfl⟩:=rx
  obtain ⟨hy,e'⟩:y.length<=sizeLine/\n=y.length:=e
  subst e'
  exact len_str (by omega) ⟨.int _,H,I.tok _,⟨_,rfl⟩,q⟩
 | byt y=>
  obtain ⟨t,rfl⟩:=rx
  obtain ⟨hy,e'⟩:y.size<=sizeLine/\n=y.size:=e
  subst e'
  exact W.len_bytes (by omega) ⟨.int _,H,I.tok _,⟨_,rfl⟩,q⟩
 | ref p=>
  cases rx
  have e':(∃ xs,SqL X.K H p xs/\n=xs.length)\/∃ xs,SqT X.K H p xs/\n=xs.length:=e
  rcases e' with ⟨xs,hx,e'⟩|⟨xs,hx,e'⟩
  ·subst e'
   obtain ⟨its,r',pl,hz⟩:=I.list hx
   have hlen:=r'.length
   exact Calls.call_len_list pl.isList (by simp only [List.size_toArray];omega) ⟨.int xs.length,H,I.tok _,⟨_,by simp only [List.size_toArray];rw [hlen]⟩,q⟩
  ·subst e'
   obtain ⟨its,r',pl,hz⟩:=I.tuple hx
   have hlen:=r'.length
   exact len_tuple pl (by simp only [List.size_toArray];omega) ⟨.int xs.length,H,I.tok _,⟨_,by simp only [List.size_toArray];rw [hlen]⟩,q⟩
 | _=>exact (show False from e).elim
end
end L2
namespace L2
open PySem PySem.Spec PyProof.Rows
structure ObjM (h:Heap) (x dx C:Addr) (mA:Str->Option Value):Prop where
 obj:h.get? x=some (W.instObj C dx)
 ns:h.Ns1 dx mA
 ne:dx≠x
theorem zu {dx:Addr} (n:h.Ns1 dx mA):∃ od,h.get? dx=some od/\∀ name,W.lookIn name od=some (mA name):=by
 obtain ⟨o,es,ep,ho,hd,hk,_,hm⟩:=n
 refine ⟨o,ho,fun name=>?_⟩
 have e:=hm name
 unfold nsFind findBy at e
 rw [<- Array.find?_toList] at e
 unfold W.lookIn
 rw [hd]
 dsimp only
 split
 ·rename_i y q
  rw [q] at e
  exact congrArg some e
 ·rename_i q
  rw [q] at e
  have a:es.toList.any (·.refKey)=false:=by
   rw [List.any_eq_false]
   intro y hy
   obtain ⟨z,t,hkey⟩:=hk y (Array.mem_toList_iff.mp hy)
   simp [DictEntry.refKey,hkey]
  have a' : ¬ es.toList.any (·.refKey)=true:=by rw [a];exact Bool.false_ne_true
  rw [if_neg a']
  exact congrArg some e
theorem ObjM.look {x dx:Addr} (I:ObjM h x dx C mA):∃ od,W.InstAt h x (W.instObj C dx) C (some od)/\∀ name,W.lookIn name od=some (mA name):=
 let ⟨od,ho,hl⟩:=zu I.ns
 ⟨od,⟨I.obj,rfl,rfl,ho⟩,hl⟩
section
variable {prog:Program} {w:World} {A:Around} {E:Value->Shared->Prop} {s:Shared} {K:W.Frag} {x dx C f:Addr} {mA:Str->Option Value} {name:Str} {v:Value}
theorem Dn {expr:Bool} {Q:Value->Shared->Prop} (X:K.In s.heap) (I:ObjM s.heap x dx C mA) (hg:W.plainGet K C name=true) (hh:W.hasDictIn K C=true)
 (ha:W.findIn K (.ref C) name=some none) (hv:mA name=some v) (hv':W.handedIn v=true) (h:Q v { s with toks:=s.toks+1 }) :
  wpAny (model prog w) A (getAttr (.ref x) name expr) Q E s:=by
 obtain ⟨od,J,hl⟩:=I.look
 exact W.get_value X J (W.plainGet_of hg).1 (W.findObj_own hh ha rfl (by rw [hl,hv])) hv' h
theorem AH {pl:Sem Bool} {Q:Value×List Value->Shared->Prop} (X:K.In s.heap) (I:ObjM s.heap x dx C mA) (hg:W.plainGet K C name=true)
 (hf:W.findIn K (.ref C) name=some (some (.ref f))) (ht:W.isFn K (.ref f)=true) (hv:mA name=none) (h:Q (.ref f,[.ref x]) s) :
  wpAny (model prog w) A (getMethod (.ref x) name pl) Q E s:=by
 obtain ⟨od,J,hl⟩:=I.look
 exact W.method_fn X J (W.plainGet_of hg).1 (W.plainGet_of hg).2 hf (beq_iff_eq.mp ht) (by show (W.lookIn name od).map (·.isSome)=some false;rw [hl,hv];rfl) h
theorem Da {ns:List Str} {Q:Unit->Shared->Prop} (X:K.In s.heap) (I:ObjM s.heap x dx C mA)
 (hs:W.findIn K (.ref C) "__setattr__"=some (some (.builtin "object.__setattr__"))) (hp:W.plainOver K C=true) (ht:W.takerIn K C name=some none) (hh:W.hasDictIn K C=true)
 (hw:PySem.Within mA ns) (hsz:ns.length<=sizeLine)
 (h:∀ h',ObjM h' x dx C (fun y=>if y=name then some v else mA y)->Heap.SameBut dx s.heap h'->Q () { s with heap:=h',toks:=s.toks+2 }) :
  wpAny (model prog w) A (setAttr (.ref x) name v) Q E s:=by
 obtain ⟨od,J,hl⟩:=I.look
 refine W.set_plain X J hs (W.osa_open (s:={ s with toks:=s.toks+1 }) (r:=none) X J hp ht fun b=>?_)
 obtain ⟨cd,hc,hd'⟩:=W.any_some hh
 have hx:s.heap.get? x=some ⟨.ref C,some dx,.plain,#[]⟩:=I.obj
 refine wpAny_bind (wpAny_pure (wpAny_bind (wpAny_bind (wpAny_loadPart hx (wpAny_bind (W.Looks.here (s:={ s with toks:=s.toks+1 }) (W.looks_clsIn X hc) ?_))))))
 rw [hd']
 refine wpAny_pure (a:=some dx) (wpAny_bind (wpAny_pure (wpAny_bind ?_)))
 refine wpAny_nsSet1 (s:={ s with toks:=s.toks+1 }) I.ns fun h' hn2 hs2=>?_
 obtain ⟨oD,esD,epD,hoD,hdD,hcD⟩:=hn2.count (PySem.Within.cons name v hw)
 refine wpAny_bind (wpAny_lookBehind hoD (by rw [hdD];exact pastItsLine_dict (Nat.le_trans hcD (by rw [List.length_cons];omega))) ?_)
 exact wpAny_pure (h _ ⟨(hs2.2 _ (Ne.symm I.ne)).trans I.obj,hn2,I.ne⟩ hs2)
theorem Ad {R:Result->Shared->Prop} {vs:List Value} {kw:List (Str×Value)} (X:K.In s.heap) (hm:W.makesIn K C=true)
 (hi:W.findIn K (.ref C) "__init__"=some (some (.ref f))) (hf:W.typeIn K (.ref f)=some (.type "function"))
 (h:codeAny (model prog w) (A.under (.builtin "type.__call__" ⟨.ref C::vs,kw⟩)) (.call (.ref f) ⟨.ref (s.heap.objs.size+1)::vs,kw⟩) (W.InitBack (s.heap.objs.size+1) R)
 { s with heap:=(s.heap.push W.emptyDict).push (W.instObj C s.heap.objs.size) }) :
  codeAny (model prog w) A (.call (.ref C) ⟨vs,kw⟩) R s:=by
 obtain ⟨hh,g,d,t,os⟩:=s
 exact W.make_core (W.makes_of X hm) (W.looks_findIn X hi) (fun self=>W.bind_fn X self hf) (.inl rfl) h
end
def oO (f:Str) (v:V):List (Str×V)->List (Str×V)
 | []=>[(f,v)]
 | (g,x)::r=>if g=f then (g,v)::r else (g,x)::oO f v r
theorem mW (f g:Str) (v:V):∀ fs:List (Str×V),(oO f v fs).lookup g=if g=f then some v else fs.lookup g
 | []=>by
  show List.lookup g [(f,v)]=_
  by_cases h:g=f
  ·have hb:(g==f)=true:=beq_iff_eq.mpr h
   simp only [List.lookup,hb,if_pos h]
  ·have hb:(g==f)=false:=beq_eq_false_iff_ne.mpr h
   simp only [List.lookup,hb,if_neg h]
 | (k,x)::r=>by
  have ih:=mW f g v r
  rw [show oO f v ((k,x)::r)=(if k=f then (k,v)::r else (k,x)::oO f v r) from rfl]
  by_cases hk:k=f
  ·rw [if_pos hk]
   by_cases h:g=k
   ·have hb:(g==k)=true:=beq_iff_eq.mpr h
    simp only [List.lookup,hb,if_pos (h.trans hk)]
   ·have hb:(g==k)=false:=beq_eq_false_iff_ne.mpr h
    simp only [List.lookup,hb,if_neg (fun e:g=f=>h (e.trans hk.symm))]
  ·rw [if_neg hk]
   by_cases h:g=k
   ·have hb:(g==k)=true:=beq_iff_eq.mpr h
    simp only [List.lookup,hb,if_neg (fun e:g=f=>hk (h.symm.trans e))]
   ·have hb:(g==k)=false:=beq_eq_false_iff_ne.mpr h
    simp only [List.lookup,hb]
    exact ih
theorem lA (f:Str) (v:V):∀ fs:List (Str×V),f∈(oO f v fs).map (·.1)/\∀ g,g∈fs.map (·.1)->g∈(oO f v fs).map (·.1)
 | []=>⟨by simp [oO],fun g h=>by simp at h⟩
 | (k,x)::r=>by
  obtain ⟨i1,i2⟩:=lA f v r
  rw [show oO f v ((k,x)::r)=(if k=f then (k,v)::r else (k,x)::oO f v r) from rfl]
  by_cases hk:k=f
  ·rw [if_pos hk]
   subst hk
   exact ⟨by simp,fun g h=>by simpa using h⟩
  ·rw [if_neg hk]
   refine ⟨?_,fun g h=>?_⟩
   ·rw [List.map_cons]
    exact List.mem_cons_of_mem _ i1
   ·rw [List.map_cons] at h ⊢
    rcases List.mem_cons.mp h with e|e
    ·exact List.mem_cons.mpr (.inl e)
    ·exact List.mem_cons_of_mem _ (i2 g e)
theorem nv (f:Str) (v:V):∀ fs:List (Str×V),(oO f v fs).length<=fs.length+1
 | []=>by simp [oO]
 | (k,x)::r=>by
  have ih:=nv f v r
  rw [show oO f v ((k,x)::r)=(if k=f then (k,v)::r else (k,x)::oO f v r) from rfl]
  by_cases hk:k=f
  ·rw [if_pos hk,List.length_cons,List.length_cons];omega
  ·rw [if_neg hk,List.length_cons,List.length_cons];omega
theorem RelO.some_of {o:Option Value} (r:RelO (some v) o):∃ u,o=some u/\RelV v u:=by
 cases o with
 | none=>exact (show False from r).elim
 | some u=>exact ⟨u,rfl,r⟩
theorem RelO.none_of {o:Option Value} (r:RelO none o):o=none:=by
 cases o with
 | none=>rfl
 | some u=>exact (show False from r).elim
theorem xI (r:RelV v u):W.handedIn u=true:=by
 cases v with
 | non=>cases (show u=Value.none from r);rfl
 | bl b=>cases (show u=Value.bool b from r);rfl
 | int i=>obtain ⟨t,e⟩:=(show ∃ t,u=Value.int i t from r);cases e;rfl
 | str x=>obtain ⟨t,e⟩:=(show ∃ t,u=Value.str x t from r);cases e;rfl
 | byt b=>obtain ⟨t,e⟩:=(show ∃ t,u=Value.bytes b t from r);cases e;rfl
 | flt b=>obtain ⟨t,e⟩:=(show ∃ t,u=Value.float b t from r);cases e;rfl
 | ref a=>cases (show u=Value.ref a from r);rfl
 | ty n=>cases (show u=Value.type n from r);rfl
section
variable {P:Program} {w:World} {H H':Hp} {h h':Heap} {a C dx:Addr} {fs fs':List (Str×V)}
theorem uv (hok:HOk P w H h) (e:H a=some (.ins C dx fs)):∃ mA,ObjM h a dx C mA/\(∀ f,RelO (fs.lookup f) (mA f))/\PySem.Within mA (fs.map (·.1))/\fs.length<=1000/\H dx=some (.own a):=by
 obtain ⟨d,z,ne,ob,mA,n,r,q⟩:=(show ObjOk P w H h a (.ins C dx fs) from hok a _ e)
 exact ⟨mA,⟨ob,n,ne⟩,r,q,z,d⟩
end
structure Cls (K:W.Frag) (C:Addr):Prop where
 pg:W.plainGet K C Str.empty=true
 hd:W.hasDictIn K C=true
 po:W.plainOver K C=true
 sa:W.findIn K (.ref C) "__setattr__"=some (some (.builtin "object.__setattr__"))
theorem Cls.get {K:W.Frag} (c:Cls K C) (f:Str):W.plainGet K C f=true:=c.pg
def NoAttr (K:W.Frag) (C:Addr) (f:Str):Prop:=W.findIn K (.ref C) f=some none
theorem NoAttr.taker {K:W.Frag} {f:Str} (n:NoAttr K C f):W.takerIn K C f=some none:=by
 unfold W.takerIn
 rw [show W.findIn K (.ref C) f=some none from n]
 rfl
structure Con (K:W.Frag) (C:Addr) (f:Str) (v:V) (u:Value):Prop where
 at_:W.findIn K (.ref C) f=some (some u)
 rel:RelV v u
 get:W.specialIn K u "__get__"=some none
 cp:W.copiedNames.contains f=false
structure Meth (K:W.Frag) (C:Addr) (m:Str) (f:Addr):Prop where
 at_:W.findIn K (.ref C) m=some (some (.ref f))
 fn:W.isFn K (.ref f)=true
 kp:W.keepIn K (.ref f)=true
section
variable {X:Cx} {pins:List (Addr×Obj)} {σ:St} {H:Hp} {s:Shared} {a C dx:Addr} {fs:List (Str×V)} {f:Str} {v:V} {A:Around} {E:Value->Shared->Prop}
theorem wl {b:Bool} {Q:Value->Shared->Prop} (I:Inv X pins σ H s) (e:H a=some (.ins C dx fs)) (c:Cls X.K C) (n:NoAttr X.K C f) (l:fs.lookup f=some v)
 (h:∀ u s',Inv X pins σ H s'->RelV v u->Q u s'):wpAny (model X.prog X.w) A (getAttr (.ref a) f b) Q E s:=by
 obtain ⟨mA,O,r,_,_,_⟩:=uv I.hok e
 obtain ⟨u,hu,ru⟩:=RelO.some_of (v:=v) (o:=mA f) (by rw [<- l];exact r f)
 exact Dn I.kIn O (c.get f) c.hd n hu (xI ru) (h u _ (I.tok _) ru)
theorem dU {m:Str} {g:Addr} {pl:Sem Bool} {Q:Value×List Value->Shared->Prop} (I:Inv X pins σ H s) (e:H a=some (.ins C dx fs)) (c:Cls X.K C) (k:Meth X.K C m g) (l:fs.lookup m=none)
 (h:Q (.ref g,[.ref a]) s):wpAny (model X.prog X.w) A (getMethod (.ref a) m pl) Q E s:=by
 obtain ⟨mA,O,r,_,_,_⟩:=uv I.hok e
 have hn:mA m=none:=RelO.none_of (by rw [<- l];exact r m)
 exact AH I.kIn O (c.get m) k.at_ k.fn hn h
theorem wB {y:V} {Q:Unit->Shared->Prop} (I:Inv X pins σ H s) (e:H a=some (.ins C dx fs)) (c:Cls X.K C) (n:NoAttr X.K C f) (hl:fs.length<1000) (ry:RelV y u)
 (h:∀ s',Inv X pins σ (upd H a (.ins C dx (oO f y fs))) s'->Q () s'):wpAny (model X.prog X.w) A (setAttr (.ref a) f u) Q E s:=by
 obtain ⟨mA,O,r,wi,_,ho⟩:=uv I.hok e
 have hz:(fs.map (·.1)).length<=sizeLine:=by rw [List.length_map,sizeLine_eq];omega
 refine Da I.kIn O c.sa c.po n.taker c.hd wi hz fun h' O' sb=>h _ ?_
 have hd:∃ o,h'.get? dx=some o:=let ⟨o,_,_,e',_⟩:=O'.ns;⟨o,e'⟩
 refine I.write (x:=a) (e:=dx) (by rw [e];exact True.intro) (.inr ho) (fun b q hb z=>(sb.2 b hb).trans z) hd ?_
 refine ⟨by rw [aL O.ne];exact ho,?_,O.ne,O'.obj,_,O'.ns,fun g=>?_,fun g hg=>?_⟩
 ·have:=nv f y fs;omega
 ·show RelO ((oO f y fs).lookup g) (if g=f then some u else mA g)
  rw [mW]
  by_cases q:g=f
  ·rw [if_pos q,if_pos q];exact ry
  ·rw [if_neg q,if_neg q];exact r g
 ·by_cases q:g=f
  ·rw [q];exact (lA f y fs).1
  ·refine (lA f y fs).2 g (wi g fun z=>hg ?_)
   show (if g=f then some u else mA g)=none
   rw [if_neg q];exact z
theorem Inv.made (I:Inv X pins σ H s):Inv X pins σ (upd (upd H s.heap.objs.size (.own (s.heap.objs.size+1))) (s.heap.objs.size+1) (.ins C s.heap.objs.size []))
  { s with heap:=(s.heap.push W.emptyDict).push (W.instObj C s.heap.objs.size) }:=by
 have e1:(s.heap.push W.emptyDict).get? s.heap.objs.size=some W.emptyDict:=Heap.get?_push_size s.heap rfl
 have e2:((s.heap.push W.emptyDict).push (W.instObj C s.heap.objs.size)).get? (s.heap.objs.size+1)=some (W.instObj C s.heap.objs.size):=by
  have:=Heap.get?_push_size (s.heap.push W.emptyDict) (o:=W.instObj C s.heap.objs.size) rfl
  rwa [Heap.size_push] at this
 have e3:(s.heap.push W.emptyDict).Ns s.heap.objs.size (fun _=>none):=⟨W.emptyDict,#[],_,e1,rfl,(fun e he=>absurd he (by simp)),fun _=>rfl⟩
 have I1:=I.laid (a:=s.heap.objs.size) (o:=.own (s.heap.objs.size+1)) (h':=s.heap.push W.emptyDict) (t':=s.toks) (fun b u q=>Heap.get?_push_of_some _ q) (Nat.le_refl _) ⟨_,e1⟩
 refine I1.laid (a:=s.heap.objs.size+1) (o:=.ins C s.heap.objs.size []) (t':=s.toks) (fun b u q=>Heap.get?_push_of_some _ q) (Nat.le_of_eq (Heap.size_push _ _)) ?_
 have ne:s.heap.objs.size≠s.heap.objs.size+1:=Nat.ne_of_lt (Nat.lt_succ_self _)
 refine ⟨by rw [aL ne,aX],Nat.zero_le _,ne,e2,fun _=>none,(Heap.Ns1.of_empty e3).at fun o q=>Heap.get?_push_of_some _ q,fun _=>True.intro,fun y hy=>absurd rfl hy⟩
theorem CJ {prog:Program} {w:World} {env:Env} {e:Expr} {f:Str} {Q:Value->Shared->Prop} (hb:attributeBase e f env (eval e env)=eval e env)
 (h:wpAny (model prog w) A (eval e env) (fun o K2=>wpAny (model prog w) A (getAttr o f true) Q E K2) E s):wpAny (model prog w) A (eval (.Attribute e f pos) env) Q E s:=
 Attribute_any_ h (by rw [arm_eval_Attribute,hb])
end
def JN (K:W.Frag) (ta:TE) (f:Str):TE:=fun σ H Q=>ta σ H fun x H1=>∃ a C dx fs v,x=.ref a/\H1 a=some (.ins C dx fs)/\Cls K C/\NoAttr K C f/\fs.lookup f=some v/\Q v H1
def JE (K:W.Frag) (ta tv:TE) (f:Str):TS:=fun D σ H=>tv σ H fun y H1=>ta σ H1 fun x H2=>∃ a C dx fs,x=.ref a/\H2 a=some (.ins C dx fs)/\Cls K C/\NoAttr K C f/\fs.length<1000/\
 D.nx σ (upd H2 a (.ins C dx (oO f y fs)))
section
variable {X:Cx} {o e value:Expr} {f:Str} {pos pos' tpos:Pos} {ta tv:TE}
theorem rY (he:PE X e ta) (hb:attributeBase e f X.env (eval e X.env)=eval e X.env):PE X (.Attribute e f pos) (JN X.K ta f):=by
 intro pins s σ H Q I h
 refine CJ hb (thn (he pins s σ H _ I h) fun u s1 ⟨x,H1,I1,rx,a,C,dx,fs,v,ex,ea,c,n,l,q⟩=>?_)
 subst ex
 obtain rfl:u=Value.ref a:=rx
 exact wl I1 ea c n l fun u' s2 I2 ru=>⟨v,H1,I2,ru,q⟩
theorem EB (ha:PE X o ta) (hv:PE X value tv) (hs:swapsWith value (some (.Attribute o f pos')) pos.line X.env=pure false):PS X (.Assign [.Attribute o f pos'] value pos) (JE X.K ta tv f):=by
 intro pins s σ H D I h
 refine plainObj_wpAny_Assign_Attribute (thn (hv pins s σ H _ I h) fun u s1 ⟨y,H1,I1,ry,q⟩=>thn (ha pins s1 σ H1 _ I1 q) fun ov s2 ⟨x,H2,I2,rx,a,C,dx,fs,ex,ea,c,n,l,q2⟩=>?_) hs
 subst ex
 obtain rfl:ov=Value.ref a:=rx
 exact wB I2 ea c n l ry fun s3 I3=>⟨σ,_,I3,q2⟩
end
section
variable {X:Cx} {pins:List (Addr×Obj)} {σ:St} {H:Hp} {s:Shared} {A:Around} {E:Value->Shared->Prop} {Q:Value->Shared->Prop} {c:Value} {b:Bool}
inductive TyOf (K:W.Frag) (H:Hp):V->Value->Prop where
 | non:TyOf K H .non (.type "NoneType")
 | bl (x:Bool):TyOf K H (.bl x) (.type "bool")
 | int (i:Int):TyOf K H (.int i) (.type "int")
 | str (x:Str):TyOf K H (.str x) (.type "str")
 | flt (x:UInt64):TyOf K H (.flt x) (.type "float")
 | lst {a:Addr} {xs:List V} (e:H a=some (.lst xs)):TyOf K H (.ref a) (.type "list")
 | frz {a:Addr} {o:Obj} {xs:List V} (e:H a=some (.frz o (.lst xs))):TyOf K H (.ref a) (.type "list")
 | tup {a:Addr} {xs:List V} (e:H a=some (.tup xs)):TyOf K H (.ref a) (.type "tuple")
 | dK {a:Addr} {kvs:List (Key×V)} (e:H a=some (.dK kvs)):TyOf K H (.ref a) (.type "dict")
 | dT {a:Addr} {kvs:List (List Key×V)} (e:H a=some (.dT kvs)):TyOf K H (.ref a) (.type "dict")
 | ins {a C dx:Addr} {fs:List (Str×V)} (e:H a=some (.ins C dx fs)) (cl:Cls K C) (ha:W.findIn K (.ref C) "__class__"=some (some (.builtin "object.__class__")))
   (hn:W.specialIn K (.builtin "object.__class__") "__get__"=some (some (.builtin "getset_descriptor.__get__"))) (htk:W.takesIn K (.builtin "object.__class__")=some true)
   (hm:W.mroIn K C (.type "object")=some true):TyOf K H (.ref a) (.ref C)
end
end L2
namespace L2
open PySem PySem.Spec PyProof.Rows
structure Room (k:Nat) (A:Around):Prop where
 hd:A.handled=none
 dp:A.depth+3 * k+5<recursionLimit
 un:A.units+16 * k+200<cLine
theorem Room.mono {A:Around} (r:Room k A) (h:j<=k):Room j A:=⟨r.hd,by have:=r.dp;omega,by have:=r.un;omega⟩
theorem Room.deeper {A:Around} (r:Room (k+1) A) (env:Env):Room k (A.deeper env):=
 ⟨r.hd,by have:=r.dp;show A.depth+1+3 * k+5<_;omega,by have:=r.un;show A.units+3+16 * k+200<_;omega⟩
theorem wT {A:Around} {kw:List (Str×Value)}:(A.under (.builtin "type.__call__" ⟨.ref C::us,kw⟩)).depth=A.depth+1:=by
 first|rfl|simp [Around.under,Code.weight,Code.isCreation,Code.isGuard,Code.isCaller,Code.frames,Code.isFrame,guardIds]
theorem wz {A:Around} {kw:List (Str×Value)}:(A.under (.builtin "type.__call__" ⟨.ref C::us,kw⟩)).units=A.units+1:=by
 first|rfl|simp [Around.under,Code.cUnits,Code.frames,Code.isFrame]
theorem Room.make {A:Around} (r:Room (k+1) A) (C:Addr) (us:List Value) (kw:List (Str×Value)):Room k (A.under (.builtin "type.__call__" ⟨.ref C::us,kw⟩)):=
 ⟨r.hd,by have:=r.dp;rw [wT];omega,by have:=r.un;rw [wz];omega⟩
theorem Room.depth {A:Around} (r:Room k A):A.depth<recursionLimit:=by have:=r.dp;omega
theorem Room.units {A:Around} (r:Room k A):A.units+64<cLine:=by have:=r.un;omega
def Gv:TA:=fun _ H Q=>Q [] H
def pX (ta:TE) (tr:TA):TA:=fun σ H Q=>ta σ H fun x H1=>tr σ H1 fun xs H2=>Q (x::xs) H2
section
variable {X:Cx} {e:Expr} {es:List Expr} {te:TE} {t:TA} {pos:Pos}
theorem fE:PA X [] Gv:=fun _ _ _ _ H Q I h=>Calls.spliced_nil ⟨[],H,I,.nil,h⟩
theorem bQ (ha:PE X e te) (hr:PA X es t) (hs:starEach (e::es) X.env=(false,eval e X.env)::starEach es X.env:=by rfl):PA X (e::es) (pX te t):=by
 intro pos pins s σ H Q I h
 rw [hs]
 show wpAny _ _ (spliced ((false,eval e X.env)::backTo pos (starEach es X.env))) _ _ s
 refine Calls.spliced_cons (thn (ha pins s σ H _ I h) fun u s1 ⟨x,H1,I1,r1,q1⟩=>?_)
 exact thn (hr pos pins s1 σ H1 _ I1 q1) fun us s2 ⟨xs,H2,I2,r2,q2⟩=>⟨x::xs,H2,I2,.cons r1 r2,q2⟩
def Gy (t:TA):TE:=fun σ H Q=>t σ H fun xs H1=>xs.length<=sizeLine/\∀ p,H1 p=none->Q (.ref p) (upd H1 p (.tup xs))
def Jk (t:TA):TE:=fun σ H Q=>t σ H fun xs H1=>xs.length<=sizeLine/\∀ p,H1 p=none->Q (.ref p) (upd H1 p (.lst xs))
theorem uV {x1} (h:PA X es t):PE X (.Tuple es x1 pos) (Gy t):=by
 intro pins s σ H Q I hq
 refine wpAny_Tuple_spliced (thn (h pos pins s σ H _ I hq) fun us s1 ⟨xs,H1,I1,r,z,q⟩=>⟨by rw [<- r.length];exact z,?_⟩)
 have hf:H1 s1.heap.objs.size=none:=I1.hok.fresh (Nat.le_refl _)
 refine ⟨.ref s1.heap.objs.size,upd H1 s1.heap.objs.size (.tup xs),I1.laid (t':=s1.toks) (fun b u e=>Heap.get?_push_of_some _ e) (Nat.le_refl _) ?_,rfl,q _ hf⟩
 exact ⟨z,us,r,⟨_,Heap.get?_push_size _ rfl,rfl,_,rfl⟩⟩
theorem D6 (h:PA X es t):PE X (.List es pos) (Jk t):=by
 intro pins s σ H Q I hq
 refine wpAny_List_spliced (thn (h pos pins s σ H _ I hq) fun us s1 ⟨xs,H1,I1,r,z,q⟩=>⟨by rw [<- r.length];exact z,?_⟩)
 have hf:H1 s1.heap.objs.size=none:=I1.hok.fresh (Nat.le_refl _)
 refine ⟨.ref s1.heap.objs.size,upd H1 s1.heap.objs.size (.lst xs),I1.laid (t':=s1.toks) (fun b u e=>Heap.get?_push_of_some _ e) (Nat.le_refl _) ?_,rfl,q _ hf⟩
 exact ⟨z,us,0,r,Heap.get?_push_size _ rfl⟩
end
abbrev Sp:=List V->Hp->VK->XK->Prop
abbrev CXT:=List Env->Hp->Shared->XK->Value->Shared->Prop
structure Env0 (P:Program) (w:World) (K:W.Frag) (mg:Str->Option Value) (base:Heap) (A:Around) (outer:List Env) (s:Shared) (H:Hp):Prop where
 frames:A.frames=some outer
 mod:Mod K mg base
 bs:∀ b o,base.get? b=some o->s.heap.get? b=some o/\H b=none
 bsz:base.objs.size<=s.heap.objs.size
 funs:s.heap.FunFrames base outer
 frf:∀ b∈frs outer,H b=none
 hok:HOk P w H s.heap
 bare:AllBare s.gens
 tabs:TabsIn base H
def CE (outer:List Env) (P:Program) (w:World) (H:Hp) (s:Shared) (Q:VK) (u:Value) (s':Shared):Prop:=
 ∃ v H',s'.os=s.os/\AllBare s'.gens/\Un (frs outer) [] H H' s.heap s'.heap/\HOk P w H' s'.heap/\RelV v u/\Q v H'
def CR (CX:CXT) (outer:List Env) (P:Program) (w:World) (H:Hp) (s:Shared) (Q:VK) (E:XK) (r:Result) (s':Shared):Prop:=
 match r with
 | .ok (.ret u)=>CE outer P w H s Q u s'
 | .ok _=>False
 | .error e=>CX outer H s E e s'
structure FnOk (P:Program) (w:World) (K:W.Frag) (mg:Str->Option Value) (base:Heap) (CX:CXT) (k:Nat) (f:Addr) (fd:FuncData) (ps:List Str) (sp:Sp):Prop where
 len:∀ vs H Q E,sp vs H Q E->vs.length=ps.length
 run:∀ (A:Around) (outer:List Env) (s:Shared) (H:Hp) (args:Args) (us:List Value) (vs:List V) (Q:VK) (E:XK),Room k A->Env0 P w K mg base A outer s H->BindsTo s fd args (ps.zip us)->Vals vs us->sp vs H Q E->
  codeAny (model P w) A (.call (.ref f) args) (CR CX outer P w H s Q E) s
theorem FnOk.imp {w:World} {K:W.Frag} {mg:Str->Option Value} {base:Heap} {CX:CXT} {sp sp':Sp} (F:FnOk P w K mg base CX k f fd ps sp)
 (h:∀ vs H Q E,sp' vs H Q E->sp vs H Q E):FnOk P w K mg base CX k f fd ps sp':=
 ⟨fun vs H Q E q=>F.len vs H Q E (h _ _ _ _ q),fun A outer s H args us vs Q E hr he hb hv hs=>F.run A outer s H args us vs Q E hr he hb hv (h _ _ _ _ hs)⟩
theorem Env0.make {w:World} {K:W.Frag} {mg:Str->Option Value} {base:Heap} {A:Around} {outer:List Env} (e:Env0 P w K mg base A outer s H) (C:Addr) (us:List Value) (kw:List (Str×Value)) :
  Env0 P w K mg base (A.under (.builtin "type.__call__" ⟨.ref C::us,kw⟩)) outer s H:=⟨by first|exact e.frames|(simpa [Around.under,Code.envs,Code.isFrame,pushEnvs] using e.frames),e.mod,e.bs,e.bsz,e.funs,e.frf,e.hok,e.bare,e.tabs⟩
section
variable {X:Cx} {pins:List (Addr×Obj)} {σ:St} {H:Hp} {s s':Shared}
theorem Inv.env0 (I:Inv X pins σ H s):Env0 X.prog X.w X.K X.mg X.base X.A X.stack s H:=
 ⟨I.ok.frames,I.ok.mod,I.bs,Nat.le_trans I.ok.bsz I.sz,I.stack,I.stkFree,I.hok,I.bare,I.ok.tabs.un I.base⟩
theorem Inv.after {Q:VK} (I:Inv X pins σ H s) (h:CE X.stack X.prog X.w H s Q u s'):EP X pins σ Q u s':=by
 obtain ⟨v,H',os,bare,un,hok,r,q⟩:=h
 obtain ⟨hh,g,d,t,os'⟩:=s'
 obtain rfl:os'=s.os:=os
 exact ⟨v,H',I.call (h':=hh) (g':=g) (d':=d) (t':=t) (ch:=[]) un hok bare (fun b z=>absurd z (by simp)),r,q⟩
end
def Binds (K:W.Frag) (fd:FuncData) (ps:List Str) (ds:List Value):Prop:=
 ∀ (s:Shared) (us:List Value),K.In s.heap->(us++ds).length=ps.length->BindsTo s fd ⟨us,[]⟩ (ps.zip (us++ds))
theorem Binds.all {K:W.Frag} (h:∀ us:List Value,us.length=ps.length->bindArgs fd ⟨us,[]⟩=pure (ps.zip us)):Binds K fd ps []:=fun s us _ hl=>by
 rw [List.append_nil] at hl ⊢
 exact .of_eq (h us hl)
section
variable {X:Cx} {CX:CXT} {k:Nat} {f C:Addr} {fd:FuncData} {ps:List Str} {sp:Sp} {dvs:List V} {ds:List Value} {E:XK} {x m:Str} {p pos apos:Pos} {e o:Expr} {es:List Expr} {ta:TE} {t:TA}
structure Mk (K:W.Frag) (C f:Addr):Prop where
 makes:W.makesIn K C=true
 init:W.findIn K (.ref C) "__init__"=some (some (.ref f))
 fn:W.isFn K (.ref f)=true
 kp:W.keepIn K (.ref C)=true
end
section
variable {X:Cx} {CX:CXT} {k:Nat} {f C:Addr} {fd:FuncData} {ps ks:List Str} {sp:Sp} {E:XK} {x m:Str} {p pos apos kpos:Pos} {e o:Expr} {es:List Expr} {kws:List Keyword} {te ta:TE} {t tk:TA} {nm:Option Str}
structure KBinds (K:W.Frag) (fd:FuncData) (ps ks:List Str) (g:List Value->List Value->List Value) (gV:List V->List V->List V):Prop where
 to:∀ (s:Shared) (us ws:List Value),K.In s.heap->(g us ws).length=ps.length->BindsTo s fd ⟨us,ks.zip ws⟩ (ps.zip (g us ws))
 rel:∀ {vs:List V} {us:List Value} {zs:List V} {ws:List Value},Vals vs us->Vals zs ws->Vals (gV vs zs) (g us ws)
variable {g:List Value->List Value->List Value} {gV:List V->List V->List V}
end
structure FnScope (N P:List Str) (sc:Scope):Prop where
 kind:sc.kind=.function
 co:sc.isCoroutine=false
 gen:sc.isGenerator=false
 nd:N.Nodup
 pre:N.take P.length=P
 par:∀ x∈P,sc.names.lookup x=some .local\/sc.names.lookup x=some .cell
 nofree:∀ y∈sc.names,y.2 ≠ .free
theorem qM {kindOf:Str->Option NameKind} {x:Str}:∀ {binds:List (Str×Value)} {m:Str->Option Value},(∀ v,(x,v) ∉ binds)->bindL kindOf binds m x=m x
 | [],_,_=>rfl
 | (n,v)::r,m,h=>by
  unfold bindL
  rw [qM fun w hw=>h w (List.mem_cons_of_mem _ hw)]
  split
  ·have:x≠n:=by rintro rfl;exact h v List.mem_cons_self
   simp [this]
  ·rfl
theorem rq {kindOf:Str->Option NameKind} {x:Str}:∀ {binds:List (Str×Value)} {m:Str->Option Value},(∀ v,(x,v) ∉ binds)->bindC kindOf binds m x=m x
 | [],_,_=>rfl
 | (n,v)::r,m,h=>by
  unfold bindC
  rw [rq fun w hw=>h w (List.mem_cons_of_mem _ hw)]
  split
  ·rfl
  ·have:x≠n:=by rintro rfl;exact h v List.mem_cons_self
   simp [this]
theorem ri {kindOf:Str->Option NameKind} {x:Str} {v:Value}:∀ {P:List Str} {vs:List Value} {i:Nat} {m:Str->Option Value},P.Nodup->P[i]?=some x->vs[i]?=some v->kindOf x=some .local->
  bindL kindOf (P.zip vs) m x=some v
 | [],_,_,_,_,h,_,_=>by simp at h
 | _::_,[],_,_,_,_,h,_=>by simp at h
 | p::P,w::vs,0,m,nd,h1,h2,hk=>by
  simp at h1 h2;subst h1;subst h2
  show bindL kindOf ((p,w)::P.zip vs) m p=_
  unfold bindL
  rw [qM fun v hv=>(List.nodup_cons.mp nd).1 (List.of_mem_zip hv).1,if_pos hk]
  simp
 | p::P,w::vs,i+1,m,nd,h1,h2,hk=>by
  show bindL kindOf ((p,w)::P.zip vs) m x=_
  unfold bindL
  exact ri (i:=i) (List.nodup_cons.mp nd).2 (by simpa using h1) (by simpa using h2) hk
theorem qu {kindOf:Str->Option NameKind} {x:Str} {v:Value}:∀ {P:List Str} {vs:List Value} {i:Nat} {m:Str->Option Value},P.Nodup->P[i]?=some x->vs[i]?=some v->kindOf x≠some .local->
  bindC kindOf (P.zip vs) m x=some v
 | [],_,_,_,_,h,_,_=>by simp at h
 | _::_,[],_,_,_,_,h,_=>by simp at h
 | p::P,w::vs,0,m,nd,h1,h2,hk=>by
  simp at h1 h2;subst h1;subst h2
  show bindC kindOf ((p,w)::P.zip vs) m p=_
  unfold bindC
  rw [rq fun v hv=>(List.nodup_cons.mp nd).1 (List.of_mem_zip hv).1,if_neg hk]
  simp
 | p::P,w::vs,i+1,m,nd,h1,h2,hk=>by
  show bindC kindOf ((p,w)::P.zip vs) m x=_
  unfold bindC
  exact qu (i:=i) (List.nodup_cons.mp nd).2 (by simpa using h1) (by simpa using h2) hk
def eD (N:List Str) (vs:List V):St:=vs.map some++List.replicate (N.length - vs.length) none
noncomputable def cS (CX:CXT) (P:Program) (w:World) (K:W.Frag) (mg:Str->Option Value) (base:Heap) (N:List Str) (qual:Str) (scope:Scope) (f:Addr) (cd:Value) (A:Around) (outer:List Env) (s:Shared) (H:Hp) (E:XK):Cx where
 prog:=P
 w:=w
 K:=K
 mg:=mg
 base:=base
 A:=A.deeper (envOfC qual scope s.heap.objs.size f cd)
 N:=N
 L8:=s
 K0:=H
 env:=envOfC qual scope s.heap.objs.size f cd
 outer:=outer
 stack:=envOfC qual scope s.heap.objs.size f cd::outer
 ex:=[]
 calm:=true
 fn:=fun _=>true
 pn:=[]
 xe:=fun e s'=>wpAny (model P w) (A.deeper (envOfC qual scope s.heap.objs.size f cd)) (leaving (envOfC qual scope s.heap.objs.size f cd) e) (fun _ s''=>CX outer H s E e s'') (fun e' s''=>CX outer H s E e' s'') s'
theorem uX {sc:Scope} (h:sc.names.lookup x=some .cell):∃ c,(cellsFrom n sc.names []).lookup x=some c:=by
 have q:=W.cellsFrom_some sc.names n [] (.inl h)
 exact Option.isSome_iff_exists.mp q
theorem ll {CX:CXT} {w:World} {K:W.Frag} {mg:Str->Option Value} {base:Heap} {N:List Str} {A:Around} {outer:List Env} {s1:Shared} {E:XK}
 (S:FnScope N ps scope) (hd:A.handled=none) (e0:Env0 P w K mg base A outer s H) (hl:vs.length=ps.length) (r:Vals vs us)
 (x:InCallC s s.heap.objs.size (bindL (envOfC qual scope s.heap.objs.size f cd).kindOf (ps.zip us) fun _=>none) (cellsFrom (s.heap.objs.size+1) scope.names []) (bindC (envOfC qual scope s.heap.objs.size f cd).kindOf (ps.zip us) fun _=>none) s1) :
  Inv (cS CX P w K mg base N qual scope f cd A outer s H E) [] (eD N vs) H s1:=by
 have hpl:ps.length<=N.length:=by have:=congrArg List.length S.pre;rw [List.length_take] at this;omega
 obtain ⟨h1,tk,rfl,hk⟩:=x.done
 have noA:∀ b:Addr,b ∉ (cS CX P w K mg base N qual scope f cd A outer s H E).ex:=fun b z=>absurd (show b∈([]:List Addr) from z) (by simp)
 refine ⟨⟨e0.mod,S.kind,rfl,rfl,Nat.le_refl _,fun y z c h1 h2=>?_,fun y hy=>?_,fun y c _ h=>?_,fun _=>hd,Around.frames_deeper e0.frames,.inr ⟨rfl,rfl⟩,fun b z=>absurd z (noA b),e0.bs,e0.bsz,fun b _ _=>noA b,fun b z=>absurd z (noA b),e0.funs,e0.frf,e0.tabs⟩,
  rfl,e0.bare,Un.kept hk,⟨_,x.toInCall.ns,fun i y v h1 h2 h3=>?_⟩,fun y c h=>⟨_,x.cell y c h⟩,e0.hok.fresh (Nat.le_refl _),fun y c h=>?_,fun p hp=>absurd (show p∈([]:List (Addr×Obj)) from hp) (by simp),e0.hok.kept hk,?_⟩
 ·exact name_of_addr x.apart (PySem.mem_of_lookup h1) (PySem.mem_of_lookup h2)
 ·have hy:scope.names.lookup y=some .cell\/scope.names.lookup y=some .free:=hy
  rcases hy with hy|hy
  ·exact uX hy
  ·exact absurd rfl (S.nofree _ (PySem.mem_of_lookup hy))
 ·exact Nat.le_of_lt (x.above y c (PySem.mem_of_lookup h))
 ·have hi:i<vs.length:=by
   unfold eD at h2
   by_cases hi:i<vs.length
   ·exact hi
   ·rw [List.getElem?_append_right (by simpa using hi)] at h2
    rw [List.getElem?_replicate] at h2
    split at h2 <;> cases h2
  have ha:vs[i]?=some v:=by
   unfold eD at h2
   rw [List.getElem?_append_left (by simpa using hi),List.getElem?_map] at h2
   cases e:vs[i]? with
   | none=>rw [e] at h2;cases h2
   | some a=>rw [e] at h2;cases h2;rfl
  obtain ⟨u,hu,rv⟩:=r.get ha
  have hp:ps[i]?=some y:=by
   rw [<- S.pre,List.getElem?_take_of_lt (by omega)];exact h1
  have ndP:ps.Nodup:=by rw [<- S.pre];exact S.nd.sublist (List.take_sublist _ _)
  refine ⟨u,rv,?_⟩
  rcases S.par y (List.mem_of_getElem? hp) with k|k
  ·exact .inl ⟨k,ri ndP hp hu k⟩
  ·obtain ⟨c,e⟩:=uX (n:=s.heap.objs.size+1) k
   refine .inr ⟨.inl k,c,e,?_⟩
   have q:=x.cell y c e
   rw [qu ndP hp hu (by show scope.names.lookup y≠_;rw [k];decide)] at q
   exact q
 ·exact e0.hok.fresh (Nat.le_of_lt (x.above y c (PySem.mem_of_lookup h)))
 ·unfold eD
  show _=N.length
  rw [List.length_append,List.length_map,List.length_replicate]
  omega
theorem zg {CX:CXT} {w:World} {K:W.Frag} {mg:Str->Option Value} {base:Heap} {dV kV ct:Value}
 {N:List Str} {sp:Sp} (lk:K.lookup f=some ⟨oc,od,.func (W.fnOf name qual params body scope dV kV doc pm an cdv ct),osl⟩) (hcd:W.codeIn K cdv qual=true) (S:FnScope N ps scope)
 (len:∀ vs H Q E,sp vs H Q E->vs.length=ps.length)
 (hbody:∀ (A:Around) (outer:List Env) (s:Shared) (H:Hp) (vs:List V) (Q:VK) (E:XK),Room k (A.deeper (envOfC qual scope s.heap.objs.size f cdv))->sp vs H Q E->
 ∃ t,PSs (cS CX P w K mg base N qual scope f cdv A outer s H E) body t/\t { nx:=fun _ H'=>Q .non H',rt:=Q } (eD N vs) H) :
  FnOk P w K mg base CX (k+1) f (W.fnOf name qual params body scope dV kV doc pm an cdv ct) ps sp:=by
 refine ⟨len,fun A outer s H args us vs Q E hr e0 hb r hsp=>?_⟩
 have hl:=len _ _ _ _ hsp
 have KX:K.In s.heap:=e0.mod.kin.keeps fun b o e=>(e0.bs b o e).1
 have lim:s.heap.NoLimit:=e0.mod.nolimit.keeps fun b o e=>(e0.bs b o e).1
 have hkind:∀ y∈ps.zip us,scope.names.lookup y.1=some .local\/(scope.names.lookup y.1=some .cell/\((cellsFrom (s.heap.objs.size+1) scope.names []).lookup y.1).isSome=true):=fun ⟨n,v⟩ hy=>by
  rcases S.par n (List.of_mem_zip hy).1 with q|q
  ·exact .inl q
  ·exact .inr ⟨q,W.cellsFrom_some _ _ _ (.inl q)⟩
 refine codeAny_call_function hr.depth (KX _ _ lk) rfl S.co S.gen rfl (W.codeRec_of KX hcd) (hb _ _ _ _ ?_)
 refine wpAny_newFunctionEnv_cells S.kind hkind fun env he s1 x=>?_
 subst he
 refine ⟨lim.keeps x.toInCall.keep,codeAny_func ?_⟩
 obtain ⟨t,ht,hq⟩:=hbody A outer s H vs Q E (hr.deeper _) hsp
 have I:Inv (cS CX P w K mg base N qual scope f cdv A outer s H E) [] (eD N vs) H s1:=ll S hr.hd e0 hl r x
 refine wpAny_mono (ht [] s1 (eD N vs) H _ I hq) (fun fl s' hs=>?_) fun e s' hs=>hs
 have fin:∀ {σ':St} {H':Hp} {v:V} {u:Value},Inv (cS CX P w K mg base N qual scope f cdv A outer s H E) [] σ' H' s'->RelV v u->Q v H'->CE outer P w H s Q u s':=
  fun {σ' H' v u} J rv q=>⟨v,H',J.os,J.bare,J.base,J.hok,rv,q⟩
 cases fl with
 | ret u=>
  obtain ⟨v,σ',H',J,rv,q⟩:=hs
  exact fin J rv q
 | next=>
  obtain ⟨σ',H',J,q⟩:=hs
  exact fin (v:=V.non) (u:=Value.none) J rfl q
 | brk=>
  obtain ⟨_,_,_,q⟩:=hs
  exact False.elim q
 | cont=>
  obtain ⟨_,_,_,q⟩:=hs
  exact False.elim q
end L2
variable {CX:L2.CXT}
namespace L2
open PySem PySem.Spec PyProof.Rows
section
variable {X:Cx} {x:Str} {p pos:Pos} {e:Expr} {es:List Expr} {t:TA} {id T:String} {r:List V->Hp->VK->Prop}
def tCB (r:List V->Hp->VK->Prop) (t:TA):TE:=fun σ H Q=>t σ H fun vs H1=>r vs H1 Q
theorem kZ (hc:jW X (.builtin id) r) (hg:Gl X x) (hm:X.mg x=none) (hv:bootBuiltins x=some (.builtin id)) (ha:PA X (e::es) t) (hn:x ≠ "__name__":=by decide) (hdb:(x==("__debug__":Str))=false:=by decide)
 (he:starEach (e::es) X.env=(false,eval e X.env)::starEach es X.env:=by rfl) (hpl:(backTo pos (starEach es X.env)).any (·.1)=false:=by rfl):PE X (.Call (.Name x p) (e::es) [] pos) (tCB r t):=by
 intro pins s σ H Q I h
 refine wpAny_Call_Name_kw (qA I hg hm hv ?_ hn hdb)
 exact callWith_builtin1 (thn (ha pos pins s σ H _ I h) fun us s1 ⟨vs,H1,I1,r1,q1⟩=>hc pins s1 σ H1 vs us Q I1 r1 q1) he hpl
theorem sg (hc:jW X (.type T) r) (hg:Gl X x) (hm:X.mg x=none) (hv:bootBuiltins x=some (.type T)) (ha:PA X (e::es) t) (hn:x ≠ "__name__":=by decide) (hdb:(x==("__debug__":Str))=false:=by decide)
 (he:starEach (e::es) X.env=(false,eval e X.env)::starEach es X.env:=by rfl) (hpl:(backTo pos (starEach es X.env)).any (·.1)=false:=by rfl):PE X (.Call (.Name x p) (e::es) [] pos) (tCB r t):=by
 intro pins s σ H Q I h
 refine wpAny_Call_Name_kw (qA I hg hm hv ?_ hn hdb)
 exact callWith_type1 (thn (ha pos pins s σ H _ I h) fun us s1 ⟨vs,H1,I1,r1,q1⟩=>hc pins s1 σ H1 vs us Q I1 r1 q1) he hpl
end
end L2
namespace HT
open PySem PyProof.Rows
section
open PySem.SeqAt
open PySem.AutoSeq1 (wpAny_loadPart')
open PySem.MeetsSeq PySem.MeetsSeq2 PySem.MeetsSeq3
end
section
variable {prog:Program} {w:World} {A:Around} {E:Value->Shared->Prop} {s:Shared}
theorem cat_tup {t:Addr} {vs ws:List Value} {Q:Value->Shared->Prop} (ht:IsTup s.heap t vs.toArray) (hb:IsTup s.heap b ws.toArray) (hv:vs≠[])
 (h1:ws=[]->Q (.ref t) s) (h2:ws≠[]->Q (.ref s.heap.objs.size) { s with heap:=s.heap.push { cls:=.type "tuple",data:=.seq (vs++ws).toArray } })
 (hsz:vs.length+ws.length<=sizeLine):wpAny (model prog w) A (binaryOp .Add (.ref t) (.ref b)) Q E s:=by
 obtain ⟨⟨cls,dd,data,sl⟩,ho,hc,n,hd⟩:=id ht
 obtain ⟨⟨cls2,dd2,data2,sl2⟩,ho2,hc2,n2,hd2⟩:=id hb
 simp only at hc hd hc2 hd2
 subst hc hd hc2 hd2
 have e:vs.toArray++ws.toArray=(vs++ws).toArray:=by simp
 by_cases hw:ws=[]
 ·exact concat_meets ⟨_,ho,rfl⟩ ⟨_,ho2,rfl⟩ noFill_tuple_add seq_tuple_add F.slot_tuple_add F.entry_tuple_add (F.args_tuple_add_2 _ _)
   (tuple_addW1 t b vs.toArray ws.toArray n n2 dd dd2 sl sl2 (by simpa using hv) (by simp [hw])) ⟨ho,ho2,h1 hw⟩
 ·refine concat_meets ⟨_,ho,rfl⟩ ⟨_,ho2,rfl⟩ noFill_tuple_add seq_tuple_add F.slot_tuple_add F.entry_tuple_add (F.args_tuple_add_2 _ _)
   (tuple_addW2 t b vs.toArray ws.toArray n n2 dd dd2 sl sl2 (by simpa using hv) (by simpa using hw) (by rw [List.size_toArray,List.size_toArray];exact hsz)) ⟨ho,ho2,?_⟩
  rw [e]
  exact h2 hw
def sIx (n d:Nat):Option Int->Nat
 | none=>d
 | some v=>if v<0 then (v+(n:Int)).toNat else min v.toNat n
theorem sIx_none (n d:Nat):sIx n d none=d:=rfl
theorem sIx_nat (n d k:Nat):sIx n d (some (k:Int))=min k n:=by
 show (if (k:Int)<0 then ((k:Int)+(n:Int)).toNat else min (k:Int).toNat n)=min k n
 rw [if_neg (by omega),Int.toNat_natCast]
theorem sIx_le (n d:Nat) (hd:d<=n) (o:Option Int):sIx n d o<=n:=by
 cases o with
 | none=>exact hd
 | some v=>
  show (if v<0 then (v+(n:Int)).toNat else min v.toNat n)<=n
  by_cases hv:v<0
  ·rw [if_pos hv];omega
  ·rw [if_neg hv];exact Nat.min_le_right _ _
theorem zf (v:Int) (n d:Nat):(if v<0 then max (v+(n:Int)) 0 else min v (n:Int))=((sIx n d (some v):Nat):Int):=by
 show (if v<0 then max (v+(n:Int)) 0 else min v (n:Int))=(((if v<0 then (v+(n:Int)).toNat else min v.toNat n):Nat):Int)
 by_cases hv:v<0
 ·simp only [if_pos hv];omega
 ·simp only [if_neg hv];omega
theorem wL (lo hi:Option Int) (n:Nat):Builtin.Slice.sliceAdjust lo hi 1 (n:Int)=(((sIx n 0 lo:Nat):Int),((sIx n n hi:Nat):Int)):=by
 have h1 : ¬ ((1:Int)<0):=by omega
 unfold Builtin.Slice.sliceAdjust
 simp only [h1,if_false]
 refine Prod.ext ?_ ?_
 ·cases lo with
  | none=>rfl
  | some v=>exact zf v n 0
 ·cases hi with
  | none=>rfl
  | some v=>exact zf v n n
theorem wW (i j:Nat):Builtin.Slice.slicePlaces (i:Int) (j:Int) 1=j - i:=by
 unfold Builtin.Slice.slicePlaces
 have h1:(1:Int) > 0:=by omega
 simp only [h1,if_true,Int.ediv_one]
 split <;> omega
theorem oK {v:Value} {o:Option Int} {Q:Option Int->Shared->Prop} (p:IsPart v o) (h:Q o s):wpAny (model prog w) A (Builtin.Slice.slicePartIndex v) Q E s:=by
 cases p with
 | none=>exact slicePart_none h
 | int i t=>exact slicePart_int h
theorem sliceApplied_gen {sl:Addr} {vl vu:Value} {lo hi:Option Int} {Q:Int×Int×Nat->Shared->Prop} (hs:s.heap.IsSliceOf sl vl vu .none) (pl:IsPart vl lo) (pu:IsPart vu hi)
 (h:Q (((sIx n 0 lo:Nat):Int),1,sIx n n hi - sIx n 0 lo) s):wpAny (model prog w) A (Builtin.Slice.sliceApplied (.ref sl) (pure (n:Int))) Q E s:=by
 obtain ⟨os,hos,hcs,hds⟩:=id hs
 unfold Builtin.Slice.sliceApplied Builtin.Slice.sliceFields
 refine wpAny_bind (wpAny_bind (wpAny_field hos hds (x:=vl) rfl (wpAny_bind (wpAny_field hos hds (x:=vu) rfl (wpAny_bind (wpAny_field hos hds (x:=.none) rfl (wpAny_pure ?_)))))))
 refine wpAny_bind (slicePart_none ?_)
 show wpAny _ _ (if ((1:Int)==0)=true then _ else _) _ _ s
 rw [if_neg (by decide)]
 refine wpAny_bind (oK pl (wpAny_bind (oK pu (wpAny_bind (wpAny_pure ?_)))))
 show wpAny _ _ (match Builtin.Slice.sliceAdjust lo hi 1 (n:Int) with|(lo,hi)=>pure (lo,(1:Int),Builtin.Slice.slicePlaces lo hi 1)) _ _ s
 rw [wL lo hi n]
 show wpAny _ _ (pure (((sIx n 0 lo:Nat):Int),(1:Int),Builtin.Slice.slicePlaces ((sIx n 0 lo:Nat):Int) ((sIx n n hi:Nat):Int) 1)) _ _ s
 rw [wW]
 exact wpAny_pure h
theorem Av (xs:Array Value) (i k:Nat):((List.range k).filterMap fun (m:Nat)=>xs[((i:Int)+(m:Int) * 1).toNat]?).toArray=((xs.toList.drop i).take k).toArray:=by
 have e:(fun (m:Nat)=>xs[((i:Int)+(m:Int) * 1).toNat]?)=fun m=>xs[i+m]?:=by
  funext m
  have:((i:Int)+(m:Int) * 1).toNat=i+m:=by omega
  rw [this]
 rw [e]
 have:=pick_run xs i k
 rw [List.filterMap_map] at this
 have e2:((fun x=>xs[x]?) ∘ fun x=>i+x)=fun m=>xs[i+m]?:=rfl
 rw [e2] at this
 rw [this]
theorem getItem_tuple_cut {t sl:Addr} {items:Array Value} {vl vu:Value} {lo hi:Option Int} {Q:Value->Shared->Prop} (ht:IsTup s.heap t items) (hs:s.heap.IsSliceOf sl vl vu .none) (pl:IsPart vl lo) (pu:IsPart vu hi)
 (hw : ¬ (sIx items.size 0 lo=0/\sIx items.size items.size hi=items.size))
 (h:Q (.ref s.heap.objs.size) { s with heap:=s.heap.push { cls:=.type "tuple",data:=.seq ((items.toList.drop (sIx items.size 0 lo)).take (sIx items.size items.size hi - sIx items.size 0 lo)).toArray } })
 (hsz:items.size<=sizeLine):wpAny (model prog w) A (getItem (.ref t) (.ref sl)) Q E s:=by
 have htake:sizeOk (.seq ((items.toList.drop (sIx items.size 0 lo)).take (sIx items.size items.size hi - sIx items.size 0 lo)).toArray):=by
  show ((items.toList.drop (sIx items.size 0 lo)).take (sIx items.size items.size hi - sIx items.size 0 lo)).toArray.size<=sizeLine
  rw [List.size_toArray,List.length_take,List.length_drop,Array.length_toList]
  omega
 have hj:sIx items.size items.size hi<=items.size:=sIx_le _ _ (Nat.le_refl _) hi
 obtain ⟨os,hos,hcs,hds⟩:=id hs
 have hTs:s.TypeIs (.ref sl) "slice":=⟨os,hos,hcs⟩
 unfold getItem
 try with_reducible refine wpAny_holding ?_
 first|refine wpAny_bind (wpAny_pure ?_)|skip
 refine wpAny_bind (wpAny_sequenceKey ht.typeIs (by decide) ?_)
 refine wpAny_bind (wpAny_callSpecial?_slot (name:=Str.ofString "__getitem__") ht.typeIs slot_tuple_getitem
  (wpAny_call_entry slot_tuple_getitem ht.typeIs entry_tuple_getitem ?_ (args_tuple_getitem _ _)))
 show wpAny _ _ (Builtin.Tuple.tupleItemsOf (.ref t)>>=_) _ _ s
 refine wpAny_bind (tupleItemsOf_ ht ?_)
 refine wpAny_bind (wpAny_typeOf hTs ?_)
 rw [if_pos (by decide)]
 refine wpAny_bind (sliceApplied_gen hs pl pu ?_)
 have hno : ¬ ((((sIx items.size 0 lo:Nat):Int)==0 && (1:Int)==1 && (sIx items.size items.size hi - sIx items.size 0 lo)==items.size)=true):=by
  intro q
  rw [Bool.and_eq_true,Bool.and_eq_true] at q
  have q1:((sIx items.size 0 lo:Nat):Int)=0:=eq_of_beq q.1.1
  have q2:sIx items.size items.size hi - sIx items.size 0 lo=items.size:=eq_of_beq q.2
  exact hw ⟨by omega,by omega⟩
 show wpAny _ _ (if (((sIx items.size 0 lo:Nat):Int)==0 && (1:Int)==1 && (sIx items.size items.size hi - sIx items.size 0 lo)==items.size)=true then _ else _) _ _ s
 rw [if_neg hno,Av]
 first
  | exact wpAny_bind (m:=Builtin.Tuple.tupleExact _) (wpAny_newObj_type (wpAny_pure ⟨_,rfl,wpAny_pure h⟩) htake)
  | exact wpAny_bind (m:=Builtin.Tuple.tupleExact _) (wpAny_newObj_type (wpAny_bind (wpAny_pure (wpAny_pure ⟨_,rfl,wpAny_pure h⟩))) htake)
  | exact wpAny_bind (wpAny_bind (m:=Builtin.Tuple.tupleExact _) (wpAny_newObj_type (wpAny_pure (wpAny_pure ⟨_,rfl,wpAny_pure h⟩)) htake))
  | exact wpAny_bind (wpAny_bind (m:=Builtin.Tuple.tupleExact _) (wpAny_newObj_type (wpAny_pure ⟨_,rfl,wpAny_pure h⟩) htake))
end
end HT
namespace L2
open PySem PySem.Spec PyProof.Rows
abbrev TO:=St->Hp->(Option Int->Hp->Prop)->Prop
noncomputable def PO (X:Cx) (e:Option Expr) (t:TO):Prop:=
 ∀ (pins:List (Addr×Obj)) (s:Shared) (σ:St) (H:Hp) (Q:Option Int->Hp->Prop),Inv X pins σ H s->t σ H Q->
  wpAny (model X.prog X.w) X.A (evalPart e X.env) (fun u s'=>∃ o H',Inv X pins σ H' s'/\IsPart u o/\Q o H') X.xe s
def B9:TO:=fun _ H Q=>Q none H
def Hr (t:TE):TO:=fun σ H Q=>t σ H fun x H1=>∃ i,x=.int i/\Q (some i) H1
section
variable {X:Cx} {e:Expr} {te:TE} {lo hi:Option Expr} {tl th:TO} {pos p2:Pos}
theorem Dc:PO X none B9:=by
 intro pins s σ H Q I h
 rw [evalPart_none]
 exact wpAny_pure ⟨none,H,I,.none,h⟩
theorem Df (h:PE X e te):PO X (some e) (Hr te):=by
 intro pins s σ H Q I hw
 rw [evalPart_some]
 refine thn (h pins s σ H _ I hw) fun u s1 ⟨x,H1,I1,r1,q1⟩=>?_
 obtain ⟨i,rfl,q⟩:=q1
 obtain ⟨t,rfl⟩:=r1
 exact ⟨some i,H1,I1,.int i t,q⟩
noncomputable def SlR (X:Cx) (r:V->Option Int->Option Int->Hp->VK->Prop):Prop:=
 ∀ (pins:List (Addr×Obj)) (s:Shared) (σ:St) (H:Hp) (x:V) (v vl vu:Value) (lo hi:Option Int) (sl:Addr) (Q:VK),Inv X pins σ H s->RelV x v->s.heap.IsSliceOf sl vl vu .none->IsPart vl lo->IsPart vu hi->r x lo hi H Q->
  ∃ T id,typeLookup (.type T) "__getitem__"=pure (some (.builtin id))/\s.TypeIs v T/\wpAny (model X.prog X.w) X.A (getItem v (.ref sl)) (EP X pins σ Q) X.xe s
theorem SlR.or {r r':V->Option Int->Option Int->Hp->VK->Prop} (h:SlR X r) (h':SlR X r'):SlR X (fun x lo hi H Q=>r x lo hi H Q\/r' x lo hi H Q):=by
 intro pins s σ H x v vl vu lo hi sl Q I rx hs pl pu q
 rcases q with q|q
 ·exact h pins s σ H x v vl vu lo hi sl Q I rx hs pl pu q
 ·exact h' pins s σ H x v vl vu lo hi sl Q I rx hs pl pu q
def tSl (r:V->Option Int->Option Int->Hp->VK->Prop) (te:TE) (tl th:TO):TE:=fun σ H Q=>te σ H fun x H1=>tl σ H1 fun l H2=>th σ H2 fun u H3=>r x l u H3 Q
theorem AJ {r:V->Option Int->Option Int->Hp->VK->Prop} (hr:SlR X r) (he:PE X e te) (hl:PO X lo tl) (hu:PO X hi th):PE X (.Subscript e (.Slice lo hi none p2) pos) (tSl r te tl th):=by
 intro pins s σ H Q I h
 refine Subscript_ (thn (he pins s σ H _ I h) fun v s1 ⟨x,H1,I1,r1,q1⟩=>?_)
 refine wpAny_Slice (thn (hl pins s1 σ H1 _ I1 q1) fun vl s2 ⟨l,H2,I2,pl,q2⟩=>thn (hu pins s2 σ H2 _ I2 q2) fun vu s3 ⟨u,H3,I3,pu,q3⟩=>?_)
 rw [evalPart_none]
 refine wpAny_pure ?_
 have I4:Inv X pins σ H3 { s3 with heap:=s3.heap.push { cls:=.type "slice",data:=.fields #[vl,vu,.none] } }:=I3.kept (t':=s3.toks) fun b ob q=>Heap.get?_push_of_some _ q
 obtain ⟨T,id,hT,ht,hg⟩:=hr pins { s3 with heap:=s3.heap.push { cls:=.type "slice",data:=.fields #[vl,vu,.none] } } σ H3 x v vl vu l u s3.heap.objs.size Q I4 r1 (Heap.IsSliceOf.new ..) pl pu q3
 show wpAny (model X.prog X.w) X.A (subscriptTail e (.Slice lo hi none p2) v (.ref s3.heap.objs.size)) (EP X pins σ Q) X.xe { s3 with heap:=s3.heap.push { cls:=.type "slice",data:=.fields #[vl,vu,.none] } }
 exact tail_any (ops:=[.ref s3.heap.objs.size,v]) ht hT hg (by with_unfolding_all rfl)
def BF (xs:List V) (lo hi:Option Int):List V:=(xs.drop (HT.sIx xs.length 0 lo)).take (HT.sIx xs.length xs.length hi - HT.sIx xs.length 0 lo)
theorem lv (xs:List V) (lo hi:Option Int):(BF xs lo hi).length<=xs.length:=by
 unfold BF
 rw [List.length_take,List.length_drop]
 omega
noncomputable def Ix (K:W.Frag):V->Option Int->Option Int->Hp->VK->Prop:=fun x lo hi H Q=>∃ a xs,x=.ref a/\SqT K H a xs/\
 ¬ (HT.sIx xs.length 0 lo=0/\HT.sIx xs.length xs.length hi=xs.length)/\∀ p,H p=none->Q (.ref p) (upd H p (.tup (BF xs lo hi)))
theorem sl_tup:SlR X (Ix X.K):=by
 intro pins s σ H x v vl vu lo hi sl Q I rx hs pl pu h
 obtain ⟨a,xs,rfl,hx,hw,q⟩:=h
 cases rx
 obtain ⟨its,r,ht,hz⟩:=I.tuple hx
 have hlen:its.toArray.size=xs.length:=by rw [List.size_toArray];exact r.length.symm
 refine ⟨"tuple",_,slot_tuple_getitem.lookup,ht.typeIs,?_⟩
 refine HT.getItem_tuple_cut ht hs pl pu (by rw [hlen];exact hw) ?_ (by rw [hlen];exact hz)
 rw [hlen]
 refine ⟨.ref s.heap.objs.size,_,I.laid (t':=s.toks) (o:=.tup (BF xs lo hi)) (fun b ob q=>Heap.get?_push_of_some _ q) (Nat.le_refl _) ?_,rfl,q _ (I.hok.fresh (Nat.le_refl _))⟩
 exact ⟨Nat.le_trans (lv xs lo hi) hz,_,(r.drop (HT.sIx xs.length 0 lo)).take (HT.sIx xs.length xs.length hi - HT.sIx xs.length 0 lo),IsTup.new _ _⟩
def GD (K:W.Frag):R2:=fun x y H Q=>∃ a b xs ys,x=.ref a/\y=.ref b/\SqT K H a xs/\SqT K H b ys/\xs≠[]/\xs.length+ys.length<=sizeLine/\
 (ys=[]->Q (.ref a) H)/\(ys≠[]->∀ p,H p=none->Q (.ref p) (upd H p (.tup (xs++ys))))
theorem Vals.nil_iff (r:Vals xs us):us=[] ↔ xs=[]:=by
 cases r with
 | nil=>simp
 | cons _ _=>simp
theorem BR:OpR X (binaryOp .Add) (GD X.K):=by
 intro pins s σ H x y v u Q I rx ry h
 obtain ⟨a,b,xs,ys,rfl,rfl,ha,hb,hx,hz,q1,q2⟩:=h
 cases rx
 cases ry
 obtain ⟨its,r1,p1,_⟩:=I.tuple ha
 obtain ⟨its2,r2,p2,_⟩:=I.tuple hb
 refine HT.cat_tup p1 p2 (fun z=>hx (r1.nil_iff.mp z)) (fun z=>⟨.ref a,H,I,rfl,q1 (r2.nil_iff.mp z)⟩) (fun z=>?_) (by rw [<- r1.length,<- r2.length];exact hz)
 refine ⟨.ref s.heap.objs.size,_,I.laid (t':=s.toks) (o:=.tup (xs++ys)) (fun b ob q=>Heap.get?_push_of_some _ q) (Nat.le_refl _) ?_,rfl,q2 (fun w=>z (r2.nil_iff.mpr w)) _ (I.hok.fresh (Nat.le_refl _))⟩
 exact ⟨by rw [List.length_append];exact hz,_,r1.append r2,IsTup.new _ _⟩
end
end L2
namespace L2
open PySem PySem.Spec PyProof.Rows
def ixN (n:Nat) (i:Int):Option Nat:=if 0<=i then (if i<n then some i.toNat else none) else if -(n:Int)<=i then some (i+n).toNat else none
def atI {α:Type} (xs:List α) (i:Int):Option α:=(ixN xs.length i).bind fun j=>xs[j]?
theorem DL {i:Int} (h:ixN n i=some j):seqIndex? i n=some j/\j<n/\-(n:Int)<=i/\i<n:=by
 unfold ixN at h
 by_cases h0:0<=i
 ·rw [if_pos h0] at h
  by_cases h1:i<n
  ·rw [if_pos h1] at h
   have e:i.toNat=j:=Option.some.inj h
   exact ⟨by rw [seqIndex_of h0 h1,e],by omega,by omega,h1⟩
  ·rw [if_neg h1] at h;cases h
 ·rw [if_neg h0] at h
  by_cases h1 : -(n:Int)<=i
  ·rw [if_pos h1] at h
   have e:(i+n).toNat=j:=Option.some.inj h
   exact ⟨by rw [seqIndex_neg (by omega) h1,e],by omega,h1,by omega⟩
  ·rw [if_neg h1] at h;cases h
theorem tz {α:Type} {xs:List α} {i:Int} {v:α} (h:atI xs i=some v):∃ j,seqIndex? i xs.length=some j/\xs[j]?=some v/\j<xs.length/\-(xs.length:Int)<=i/\i<xs.length:=by
 unfold atI at h
 cases e:ixN xs.length i with
 | none=>rw [e] at h;cases h
 | some j=>
  rw [e] at h
  obtain ⟨h1,h2,h3,h4⟩:=DL e
  exact ⟨j,h1,h,h2,h3,h4⟩
theorem Dx {α:Type} {xs:List α} {v:α} (h:xs[j]?=some v):atI xs (j:Int)=some v:=by
 have hj:j<xs.length:=(List.getElem?_eq_some_iff.mp h).1
 have e:ixN xs.length (j:Int)=some j:=by
  unfold ixN
  rw [if_pos (by omega),if_pos (by omega)];simp
 unfold atI;rw [e];exact h
def sU (b:Expr):Prop:=∀ o i,subscripted b false o i=operate [o,i] (getItem o i)
noncomputable def IxR (X:Cx) (r:R2):Prop:=
 ∀ (value slice:Expr) (pins:List (Addr×Obj)) (s:Shared) (σ:St) (H:Hp) (x y:V) (v u:Value) (Q:VK),Inv X pins σ H s->RelV x v->RelV y u->r x y H Q->
  subscripted slice false v u=operate [v,u] (getItem v u)->wpAny (model X.prog X.w) X.A (subscriptTail value slice v u) (EP X pins σ Q) X.xe s
noncomputable def MtR (X:Cx) (id:String) (r:V->List V->Hp->VK->Prop):Prop:=
 ∀ (pins:List (Addr×Obj)) (s:Shared) (σ:St) (H:Hp) (x:V) (xs:List V) (v:Value) (us:List Value) (Q:VK),Inv X pins σ H s->RelV x v->Vals xs us->r x xs H Q->
  wpAny (model X.prog X.w) X.A (call (.builtin id) (v::us)) (EP X pins σ Q) X.xe s
section
variable {X:Cx} {a b:Expr} {ta tb:TE} {pos:Pos}
theorem IxR.or {r r':R2} (h:IxR X r) (h':IxR X r'):IxR X (fun x y H Q=>r x y H Q\/r' x y H Q):=by
 intro value slice pins s σ H x y v u Q I rx ry q hs
 rcases q with q|q
 ·exact h value slice pins s σ H x y v u Q I rx ry q hs
 ·exact h' value slice pins s σ H x y v u Q I rx ry q hs
theorem Fe {r:R2} (hr:IxR X r) (ha:PE X a ta) (hb:PE X b tb) (hs:sU b):PE X (.Subscript a b pos) (tOp r ta tb):=by
 intro pins s σ H Q I h
 exact Subscript_ (HL ha hb I h fun v u s2 x y H2 I2 rx ry q=>hr a b pins s2 σ H2 x y v u Q I2 rx ry q (hs _ _))
def Iv (K:W.Frag):R2:=fun x y H Q=>∃ p xs i v,x=.ref p/\y=.int i/\SqL K H p xs/\atI xs i=some v/\Q v H
def II (K:W.Frag):R2:=fun x y H Q=>∃ p xs i v,x=.ref p/\y=.int i/\SqT K H p xs/\atI xs i=some v/\Q v H
def IH:R2:=fun x y H Q=>∃ z i c,x=.str z/\y=.int i/\z.length<=sizeLine/\atI z.cps.toList i=some c/\Q (.str ⟨#[c]⟩) H
theorem ix_list:IxR X (Iv X.K):=by
 intro value slice pins s σ H x y v u Q I rx ry h hs
 obtain ⟨p,xs,i,z,rfl,rfl,hq,he,q⟩:=h
 cases rx
 obtain ⟨t,rfl⟩:=ry
 obtain ⟨its,r,pl,hz⟩:=I.list hq
 obtain ⟨j,h1,h2,h3,h4,h5⟩:=tz he
 obtain ⟨w,ew,rw'⟩:=r.get h2
 have hl:=r.length
 have hn:=nB
 have fin:EP X pins σ Q w s:=⟨z,H,I,rw',q⟩
 by_cases h0:0<=i
 ·have hj:i.toNat=j:=by
   rw [seqIndex_of h0 h5] at h1
   exact Option.some.inj h1
  exact item_listR pl.isList h0 (by omega) (by rw [hj];simpa using ew) fin hs
 ·have hj:(i+(its.toArray.size:Int)).toNat=j:=by
   rw [seqIndex_neg (by omega) h4] at h1
   rw [List.size_toArray,<- hl]
   exact Option.some.inj h1
  exact subscriptTail_builtinR (x:=w) pl.isList.typeIs slot_list_getitem.lookup
   (wpAny_getItem_list_neg (Q:=fun r s'=>r=w/\EP X pins σ Q r s') pl.isList (by omega) (by rw [List.size_toArray] <;> omega) (by omega) (by rw [hj];simpa using ew) ⟨rfl,fin⟩) hs
theorem ix_tup:IxR X (II X.K):=by
 intro value slice pins s σ H x y v u Q I rx ry h hs
 obtain ⟨p,xs,i,z,rfl,rfl,hq,he,q⟩:=h
 cases rx
 obtain ⟨t,rfl⟩:=ry
 obtain ⟨its,r,pl,hz⟩:=I.tuple hq
 obtain ⟨j,h1,h2,h3,h4,h5⟩:=tz he
 obtain ⟨w,ew,rw'⟩:=r.get h2
 have hl:=r.length
 have hn:=nB
 have fin:EP X pins σ Q w s:=⟨z,H,I,rw',q⟩
 exact subscriptTail_builtinR (x:=w) pl.typeIs slot_tuple_getitem.lookup
  (getItem_tuple (j:=j) (Q:=fun r s'=>r=w/\EP X pins σ Q r s') pl (by omega) (by omega) (by rw [List.size_toArray,<- hl];exact h1) (by simpa using ew) ⟨rfl,fin⟩) hs
theorem FS:IxR X IH:=by
 intro value slice pins s σ H x y v u Q I rx ry h hs
 obtain ⟨z,i,c,rfl,rfl,hz,he,q⟩:=h
 obtain ⟨t,rfl⟩:=rx
 obtain ⟨t',rfl⟩:=ry
 obtain ⟨j,h1,h2,h3,h4,h5⟩:=tz he
 have hl:z.cps.toList.length=z.length:=by simp [Str.length]
 rw [hl] at h1 h4 h5
 have hn:=nB
 exact tail_any (typeIs_str s z t) slot_str_getitem.lookup (getItem_str (c:=c) (by
  have e1:decide (i < -(2 ^ 63:Int))=false:=decide_eq_false (by omega)
  have e2:decide (i ≥ 2 ^ 63)=false:=decide_eq_false (by omega)
  rw [e1,e2,Bool.or_false]) (by rw [h1];simpa using h2) ⟨.str ⟨#[c]⟩,H,I.tok _,⟨_,rfl⟩,q⟩) hs
def rIx (K:W.Frag):R2:=fun x y H Q=>Iv K x y H Q\/II K x y H Q\/IH x y H Q
theorem ER:IxR X (rIx X.K):=ix_list.or (ix_tup.or FS)
theorem qV (lo hi:Option Int) (n:Nat):(sliceBounds lo hi none n).1=((HT.sIx n 0 lo:Nat):Int)/\(sliceBounds lo hi none n).2.1=((HT.sIx n n hi:Nat):Int)/\(sliceBounds lo hi none n).2.2=1:=by
 refine ⟨?_,?_,rfl⟩
 ·cases lo with
  | none=>simp [sliceBounds,HT.sIx]
  | some i=>
   simp only [sliceBounds,HT.sIx,Option.getD_none,show (1:Int) > 0 by decide,if_true]
   by_cases h:i<0
   ·simp only [h,if_true] <;> omega
   ·simp only [h,if_false] <;> omega
 ·cases hi with
  | none=>simp [sliceBounds,HT.sIx]
  | some i=>
   simp only [sliceBounds,HT.sIx,Option.getD_none,show (1:Int) > 0 by decide,if_true]
   by_cases h:i<0
   ·simp only [h,if_true] <;> omega
   ·simp only [h,if_false] <;> omega
theorem qe (its:List Value) (lo hi:Option Int):slicePick its.toArray lo hi none=((its.drop (HT.sIx its.length 0 lo)).take (HT.sIx its.length its.length hi - HT.sIx its.length 0 lo)).toArray:=by
 obtain ⟨h1,h2,h3⟩:=qV lo hi its.toArray.size
 unfold slicePick
 rw [h1,h2,h3]
 simp only [sliceRange_one,pick_run,List.size_toArray] <;> rfl
def IP (K:W.Frag):V->Option Int->Option Int->Hp->VK->Prop:=fun x lo hi H Q=>∃ a xs,x=.ref a/\SqL K H a xs/\∀ p,H p=none->Q (.ref p) (upd H p (.lst (BF xs lo hi)))
theorem CA:SlR X (IP X.K):=by
 intro pins s σ H x v vl vu lo hi sl Q I rx hs pl pu h
 obtain ⟨a,xs,rfl,hx,q⟩:=h
 cases rx
 obtain ⟨its,r,ht,hz⟩:=I.list hx
 have hlen:=r.length
 refine ⟨"list",_,slot_list_getitem.lookup,ht.isList.typeIs,?_⟩
 refine wpAny_getItem_list_slice ht.isList hs pl pu .none (by simp) ?_ (by rw [List.size_toArray] <;> omega)
 rw [qe,<- hlen]
 refine ⟨.ref s.heap.objs.size,_,I.laid (t':=s.toks) (o:=.lst (BF xs lo hi)) (fun b ob q=>Heap.get?_push_of_some _ q) (Nat.le_refl _) ?_,rfl,q _ (I.hok.fresh (Nat.le_refl _))⟩
 exact ⟨Nat.le_trans (lv xs lo hi) hz,_,0,(r.drop (HT.sIx xs.length 0 lo)).take (HT.sIx xs.length xs.length hi - HT.sIx xs.length 0 lo),Heap.get?_push_size _ rfl⟩
theorem sd:jW X (.builtin "len") (fun xs H Q=>∃ p ys,xs=[.ref p]/\(SqL X.K H p ys\/SqT X.K H p ys)/\Q (.int ys.length) H):=by
 intro pins s σ H xs us Q I r h
 obtain ⟨p,ys,rfl,hq,q⟩:=h
 obtain ⟨u,rfl,rx⟩:=AR r
 cases rx
 have hn:=nB
 rcases hq with hq|hq
 ·obtain ⟨its,r',pl,hz⟩:=I.list hq
  have hlen:=r'.length
  exact Calls.call_len_list pl.isList (by simp only [List.size_toArray] <;> omega) ⟨.int ys.length,H,I.tok _,⟨s.toks+1,by rw [List.size_toArray,hlen]⟩,q⟩
 ·obtain ⟨its,r',pl,hz⟩:=I.tuple hq
  have hlen:=r'.length
  exact len_tuple pl (by simp only [List.size_toArray] <;> omega) ⟨.int ys.length,H,I.tok _,⟨s.toks+1,by rw [List.size_toArray,hlen]⟩,q⟩
theorem ss:jW X (.type "list") (fun xs H Q=>∃ p ys,xs=[.ref p]/\(SqL X.K H p ys\/SqT X.K H p ys)/\∀ l,H l=none->Q (.ref l) (upd H l (.lst ys))):=by
 intro pins s σ H xs us Q I r h
 obtain ⟨p,ys,rfl,hq,q⟩:=h
 obtain ⟨u,rfl,rx⟩:=AR r
 cases rx
 have fin:∀ (its:List Value),Vals ys its->ys.length<=sizeLine->∀ (h':Heap) (c':Nat),(∀ b o',s.heap.get? b=some o'->h'.get? b=some o')->
   h'.get? s.heap.objs.size=some { cls:=.type "list",dict:=none,data:=.seq its.toArray c',slots:=#[] }->EP X pins σ Q (.ref s.heap.objs.size) { s with heap:=h' }:=fun its r' hz h' c' kp e=>
  ⟨.ref s.heap.objs.size,_,I.laid (t':=s.toks) kp (Nat.le_refl _) (show ObjOk X.prog X.w _ h' _ (.lst ys) from ⟨hz,its,c',r',e⟩),rfl,q _ (I.hok.fresh (Nat.le_refl _))⟩
 rcases hq with hq|hq
 ·obtain ⟨its,r',pl,hz⟩:=I.list hq
  have hlen:=r'.length
  obtain ⟨o,ho,hc,n,hd⟩:=pl.isList
  exact call_list_seq p (.inl rfl) ho hc hd (fun h' c' kp e=>fin its r' hz h' c' kp e) (by simp only [List.size_toArray] <;> omega)
 ·obtain ⟨its,r',pl,hz⟩:=I.tuple hq
  have hlen:=r'.length
  obtain ⟨o,ho,hc,n,hd⟩:=pl
  exact call_list_seq p (.inr rfl) ho hc hd (fun h' c' kp e=>fin its r' hz h' c' kp e) (by simp only [List.size_toArray] <;> omega)
theorem oU:jW X (.type "tuple") (fun xs H Q=>∃ p ys,xs=[.ref p]/\((SqL X.K H p ys/\∀ l,H l=none->Q (.ref l) (upd H l (.tup ys)))\/(SqT X.K H p ys/\Q (.ref p) H))):=by
 intro pins s σ H xs us Q I r h
 obtain ⟨p,ys,rfl,h⟩:=h
 obtain ⟨u,rfl,rx⟩:=AR r
 cases rx
 rcases h with ⟨hq,q⟩|⟨hq,q⟩
 ·obtain ⟨its,r',pl,hz⟩:=I.list hq
  have hlen:=r'.length
  refine call_tuple_list pl.isList (fun h' kp=>?_) (by simp only [List.size_toArray] <;> omega)
  have I1:Inv X pins σ H { s with heap:=h' }:=I.kept (t':=s.toks) kp
  have I2:Inv X pins σ (upd H h'.objs.size (.tup ys)) { s with heap:=h'.push { cls:=.type "tuple",data:=.seq its.toArray } }:=
   I1.laid (t':=s.toks) (fun b o e=>Heap.get?_push_of_some _ e) (Nat.le_refl _) (show ObjOk X.prog X.w _ _ _ (.tup ys) from ⟨hz,its,r',IsTup.new _ _⟩)
  exact ⟨.ref h'.objs.size,_,I2,rfl,q _ (I1.hok.fresh (Nat.le_refl _))⟩
 ·obtain ⟨its,r',pl,hz⟩:=I.tuple hq
  exact call_tuple_same pl ⟨.ref p,H,I,rfl,q⟩
noncomputable def tyV (K:W.Frag) (T:String) (x:V) (H:Hp):Prop:=match x with
 | .str _=>T="str"
 | .int _=>T="int"
 | .ref p=>(T="list"/\∃ xs,SqL K H p xs)\/(T="tuple"/\∃ o,K.lookup p=some o/\o.cls=.type "tuple"/\o.dict=none)\/
   (T="dict"/\((∃ kvs,H p=some (.dK kvs))\/∃ kvs,H p=some (.dT kvs)))\/(T="set"/\∃ S n,H p=some (.set S n))
 | _=>False
theorem Bg {T:String} {x:V} {v:Value} (I:Inv X pins σ H s) (r:RelV x v) (ty:tyV X.K T x H) :
  s.TypeIs v T/\∀ a,v=.ref a->∃ ob,s.heap.get? a=some ob/\ob.dict=none:=by
 cases x with
 | str z=>
  obtain ⟨t,rfl⟩:=r
  cases (show T="str" from ty)
  exact ⟨typeIs_str s z t,fun _ e=>nomatch e⟩
 | int i=>
  obtain ⟨t,rfl⟩:=r
  cases (show T="int" from ty)
  exact ⟨typeIs_int s i t,fun _ e=>nomatch e⟩
 | ref p=>
  cases r
  rcases ty with ⟨rfl,xs,hq⟩|⟨rfl,o,hk,hc,hd⟩|⟨rfl,hk⟩|⟨rfl,S,n,hk⟩
  ·obtain ⟨its,_,pl,_⟩:=I.list hq
   refine ⟨pl.isList.typeIs,fun a e=>?_⟩
   cases e
   obtain ⟨o,n,e,c,hd,_⟩:=pl
   exact ⟨o,e,hd⟩
  ·refine ⟨⟨o,I.kIn p o hk,hc⟩,fun a e=>?_⟩
   cases e
   exact ⟨o,I.kIn _ o hk,hd⟩
  ·have z:∃ o,s.heap.get? p=some o/\o.ExactDict:=by
    rcases hk with ⟨kvs,hk⟩|⟨kvs,hk⟩
    ·obtain ⟨_,_,_,_,o,_,_,e,ex,_⟩:=I.hok p _ hk
     exact ⟨o,e,ex⟩
    ·obtain ⟨_,_,_,_,o,_,_,e,ex,_⟩:=I.hok p _ hk
     exact ⟨o,e,ex⟩
   obtain ⟨o,e,ex⟩:=z
   refine ⟨⟨o,e,ex.1⟩,fun a e2=>?_⟩
   cases e2
   exact ⟨o,e,ex.2.1⟩
  ·obtain ⟨o,_,_,_,e,ex,_⟩:=I.hok p _ hk
   refine ⟨⟨o,e,ex.1⟩,fun a e2=>?_⟩
   cases e2
   exact ⟨o,e,ex.2.1⟩
 | _=>exact False.elim ty
def IT (K:W.Frag) (T:String) (r:V->List V->Hp->VK->Prop) (to:TE):TE:=fun σ H Q=>to σ H fun x H1=>tyV K T x H1/\r x [] H1 Q
def tBM (K:W.Frag) (T:String) (r:V->List V->Hp->VK->Prop) (to:TE) (t:TA):TE:=fun σ H Q=>to σ H fun x H1=>tyV K T x H1/\t σ H1 fun xs H2=>r x xs H2 Q
variable {o e:Expr} {es:List Expr} {to:TE} {t:TA} {name:Str} {apos cpos:Pos} {T id:String} {r:V->List V->Hp->VK->Prop}
theorem Fl (pa:PlainAttrs T) (slot:Slot T name id) (hty:typeOf (.builtin id)=pure (.type "method_descriptor")) (hm:MtR X id r) (ho:PE X o to)
 (hbase:attributeBase o name X.env (eval o X.env)=eval o X.env:=by rfl) (hline:(apos.endLine==cpos.line)=true:=by rfl):PE X (.Call (.Attribute o name apos) [] [] cpos) (IT X.K T r to):=by
 intro pins s σ H Q I h
 refine wpAny_Call_method0_late hbase hline (thn (ho pins s σ H _ I h) fun v s1 ⟨x,H1,I1,r1,ty,q1⟩=>?_)
 obtain ⟨h1,h2⟩:=Bg I1 r1 ty
 exact ⟨T,id,pa,slot,hty,h1,h2,Calls.callWith_builtin rfl (PySem.evalArgs_none (hm pins s1 σ H1 x [] v [] Q I1 r1 .nil q1))⟩
theorem Ab (pa:PlainAttrs T) (slot:Slot T name id) (hty:typeOf (.builtin id)=pure (.type "method_descriptor")) (hm:MtR X id r) (ho:PE X o to) (ha:PA X (e::es) t)
 (hbase:attributeBase o name X.env (eval o X.env)=eval o X.env:=by rfl)
 (hfew:((backTo cpos (starEach (e::es) X.env)).all (fun x=>!x.1) && (backToKw cpos (keywordEach [] X.env)).all (fun x=>x.1.isSome)
 && decide ((e::es).length+([]:List Keyword).length+(if ([]:List Keyword).isEmpty then 0 else 1)<30))=true:=by rfl)
 (hline:(apos.endLine==cpos.line)=true:=by rfl) (hs:starEach (e::es) X.env=(false,eval e X.env)::starEach es X.env:=by rfl) (hplain:(backTo cpos (starEach es X.env)).any (·.1)=false:=by rfl) :
  PE X (.Call (.Attribute o name apos) (e::es) [] cpos) (tBM X.K T r to t):=by
 intro pins s σ H Q I h
 refine wpAny_Call_method_late hbase hfew hline rfl (thn (ho pins s σ H _ I h) fun v s1 ⟨x,H1,I1,r1,ty,q1⟩=>?_)
 obtain ⟨h1,h2⟩:=Bg I1 r1 ty
 refine ⟨T,id,pa,slot,hty,h1,h2,?_⟩
 have hA:=ha cpos pins s1 σ H1 _ I1 q1
 rw [hs] at hA ⊢
 refine Calls.callWith_builtin (by show (false || (backTo cpos (starEach es X.env)).any (·.1))=false;rw [hplain] <;> rfl) (Calls.evalArgs_plain ?_)
 exact thn hA fun us s2 ⟨vs,H2,I2,r2,q2⟩=>hm pins s2 σ H2 x vs v us Q I2 r1 r2 q2
/- xs.append(e),list.index on a module's tuple .. are MtR facts of 06m -/
end
end L2
namespace L2
open PySem PySem.Spec PyProof.Rows
noncomputable def MtM (X:Cx) (id:String) (r:V->List V->Hp->VK->Prop):Prop:=
 ∀ (pins:List (Addr×Obj)) (s:Shared) (σ:St) (H:Hp) (x:V) (xs:List V) (v:Value) (us:List Value) (Q:VK),Inv X pins σ H s->RelV x v->Vals xs us->r x xs H Q->
  wpAny (model X.prog X.w) X.A (call (.builtin id) (v::us)) (EP X pins σ Q) X.xe s
theorem Vals.one:∀ {x:V} {us:List Value},Vals [x] us->∃ u,us=[u]/\RelV x u
 | _,_,.cons r .nil=>⟨_,rfl,r⟩
theorem Vals.two:∀ {x y:V} {us:List Value},Vals [x,y] us->∃ u v,us=[u,v]/\RelV x u/\RelV y v
 | _,_,_,.cons r (.cons q .nil)=>⟨_,_,rfl,r,q⟩
theorem Vals.zero:∀ {us:List Value},Vals [] us->us=[]
 | _,.nil=>rfl
theorem Vals.dropLast (h:Vals xs us):Vals xs.dropLast us.dropLast:=by
 induction h with
 | nil=>exact .nil
 | cons r t ih=>
  cases t with
  | nil=>exact .nil
  | cons q t'=>exact .cons r ih
theorem Vals.rep (h:Vals xs us):∀ k:Nat,Vals (List.replicate k xs).flatten (List.replicate k us).flatten
 | 0=>.nil
 | k+1=>by
  rw [List.replicate_succ,List.replicate_succ,List.flatten_cons,List.flatten_cons]
  exact Vals.append h (Vals.rep h k)
theorem wA {α:Type} (l:List α):l.eraseIdx (l.length - 1)=l.dropLast:=by
 induction l with
 | nil=>rfl
 | cons a r ih=>
  cases r with
  | nil=>rfl
  | cons b r=>
   have e:(a::b::r).length - 1=((b::r).length - 1)+1:=by
    have h1:(a::b::r).length=r.length+2:=rfl
    have h2:(b::r).length=r.length+1:=rfl
    omega
   rw [e,List.eraseIdx_cons_succ,ih]
   all_goals rfl
theorem jD (its:List Value):∀ (k:Nat) (acc:List Value),
  List.foldl (fun x1 x2=>x1++x2) acc.toArray (List.replicate k its.toArray)=(acc++(List.replicate k its).flatten).toArray
 | 0,acc=>by simp
 | k+1,acc=>by
  have e:acc.toArray++its.toArray=(acc++its).toArray:=by simp
  have e2:(acc++its)++(List.replicate k its).flatten=acc++(List.replicate (k+1) its).flatten:=by
   rw [List.replicate_succ,List.flatten_cons,List.append_assoc]
  rw [<- e2,<- jD its k (acc++its),<- e,List.replicate_succ,List.foldl_cons]
section
variable {X:Cx} {pins:List (Addr×Obj)} {σ:St} {H:Hp} {s:Shared} {l b:Addr} {xs ys zs:List V}
theorem Inv.lset {its':List Value} {f:Array Value->Array Value} {t':Nat} (I:Inv X pins σ H s) (hH:H l=some (.lst xs))
 (e:s.heap.get? l=some { cls:=.type "list",data:=.seq its.toArray n }) (hf:f its.toArray=its'.toArray) (hv:Vals ys its') (hz:ys.length<=sizeLine) :
  Inv X pins σ (upd H l (.lst ys)) { s with heap:=s.heap.update l (Obj.mapSeq f),toks:=t' }:=by
 have q:=PySem.IsL.update e f
 rw [hf] at q
 refine I.write (x:=l) (e:=l) (by rw [hH];exact trivial) (.inl rfl) (fun b' u hb hu=>(Heap.get?_update_other s.heap (Obj.mapSeq f) (Ne.symm hb)).trans hu) ⟨_,q⟩ ?_
 exact ⟨hz,its',_,hv,q⟩
theorem Inv.lnew {t':Nat} (I:Inv X pins σ H s) (hv:Vals ys its) (hz:ys.length<=sizeLine) :
  Inv X pins σ (upd H s.heap.objs.size (.lst ys)) { s with heap:=s.heap.push { cls:=.type "list",data:=.seq its.toArray },toks:=t' }:=
 I.laid (fun _ _ q=>Heap.get?_push_of_some _ q) (Nat.le_refl _) ⟨hz,its,0,hv,Heap.get?_push_size _ rfl⟩
theorem Inv.fresh (I:Inv X pins σ H s):H s.heap.objs.size=none:=I.hok.fresh (Nat.le_refl _)
theorem Inv.lstM (I:Inv X pins σ H s) (hH:H l=some (.lst xs)):xs.length<=sizeLine/\∃ (its:List Value) (n:Nat),Vals xs its/\xs.length=its.length/\s.heap.get? l=some { cls:=.type "list",data:=.seq its.toArray n }:=by
 obtain ⟨z,its,n,r,e⟩:=I.hok l _ hH
 exact ⟨z,its,n,r,r.length,e⟩
theorem uY (h:n<=sizeLine):Builtin.List.listTooLong n=false:=by
 unfold Builtin.List.listTooLong
 exact decide_eq_false (by omega)
end
section
variable {X:Cx}
def Ca:V->List V->Hp->VK->Prop:=fun x vs H Q=>∃ l xs y,x=.ref l/\vs=[y]/\H l=some (.lst xs)/\xs.length<sizeLine/\Q .non (upd H l (.lst (xs++[y])))
theorem nr:MtM X "list.append" Ca:=by
 intro pins s σ H x vs v us Q I rx rv h
 obtain ⟨l,xs,y,rfl,rfl,hH,hz,q⟩:=h
 cases rx
 obtain ⟨u,rfl,ru⟩:=rv.one
 obtain ⟨z,its,n,r,hl,e⟩:=I.lstM hH
 refine call_meets F.slot_list_append ⟨_,e,rfl⟩ F.entry_list_append (F.args_list_append_2 _ _) (PySem.list_append l its.toArray n u (by rw [List.size_toArray];omega)) ⟨e,?_⟩
 refine ⟨.non,_,I.lset (its':=its++[u]) hH e (by simp) (r.append (.cons ru .nil)) ?_,rfl,q⟩
 rw [List.length_append,List.length_singleton]
 omega
def CC:V->List V->Hp->VK->Prop:=fun x vs H Q=>∃ l b xs zs,x=.ref l/\vs=[.ref b]/\H l=some (.lst xs)/\H b=some (.lst zs)/\xs.length+zs.length<=sizeLine/\Q .non (upd H l (.lst (xs++zs)))
theorem ye:MtM X "list.extend" CC:=by
 intro pins s σ H x vs v us Q I rx rv h
 obtain ⟨l,b,xs,zs,rfl,rfl,hH,hB,hz,q⟩:=h
 cases rx
 obtain ⟨u,rfl,ru⟩:=rv.one
 cases ru
 obtain ⟨z,its,n,r,hl,e⟩:=I.lstM hH
 obtain ⟨z2,its2,n2,r2,hl2,e2⟩:=I.lstM hB
 have hsz:its.toArray.size+its2.toArray.size<=sizeLine:=by rw [List.size_toArray,List.size_toArray];omega
 have hlong : ¬ (!its.toArray.isEmpty && Builtin.List.listTooLong (its.toArray.size+its2.toArray.size))=true:=by
  rw [uY hsz,Bool.and_false]
  exact Bool.false_ne_true
 refine call_meets F.slot_list_extend ⟨_,e,rfl⟩ F.entry_list_extend (F.args_list_extend_2 _ _)
  (AutoSeq1.list_extend_list_list_0 l its.toArray n b its2.toArray n2 hlong (by rw [List.size_toArray];omega) (by omega)) ⟨e,e2,?_⟩
 refine ⟨.non,_,I.lset (its':=its++its2) hH e (by simp) (r.append r2) ?_,rfl,q⟩
 rw [List.length_append]
 omega
def JS:V->List V->Hp->VK->Prop:=fun x vs H Q=>∃ l xs y,x=.ref l/\vs=[]/\H l=some (.lst xs)/\xs[xs.length - 1]?=some y/\Q y (upd H l (.lst xs.dropLast))
theorem Gj:MtM X "list.pop" JS:=by
 intro pins s σ H x vs v us Q I rx rv h
 obtain ⟨l,xs,y,rfl,rfl,hH,hy,q⟩:=h
 cases rx
 have hus:=rv.zero
 subst hus
 obtain ⟨z,its,n,r,hl,e⟩:=I.lstM hH
 obtain ⟨u,hu,ru⟩:=r.get hy
 have hy':its.toArray[its.toArray.size - 1]?=some u:=by
  show its.toArray[its.length - 1]?=some u
  rw [<- Array.getElem?_toList,<- hl]
  exact hu
 refine call_meets F.slot_list_pop ⟨_,e,rfl⟩ F.entry_list_pop (F.args_list_pop_1 _) (MeetsSeq.list_pop_last l its.toArray n u hy' (by rw [List.size_toArray];omega)) ⟨e,?_⟩
 refine ⟨y,_,I.lset (its':=its.dropLast) hH e ?_ r.dropLast ?_,ru,q⟩
 ·show its.toArray.eraseIdxIfInBounds (its.toArray.size - 1)=its.dropLast.toArray
  rw [List.size_toArray,List.eraseIdxIfInBounds_toArray,wA]
 ·rw [List.length_dropLast]
  omega
def IB:R2:=fun x y H Q=>∃ l b xs zs,x=.ref l/\y=.ref b/\H l=some (.lst xs)/\H b=some (.lst zs)/\xs.length+zs.length<=sizeLine/\∀ p,H p=none->Q (.ref p) (upd H p (.lst (xs++zs)))
theorem op_cat:OpR X (binaryOp .Add) IB:=by
 intro pins s σ H x y v u Q I rx ry h
 obtain ⟨l,b,xs,zs,rfl,rfl,hH,hB,hz,q⟩:=h
 cases rx
 cases ry
 obtain ⟨z,its,n,r,hl,e⟩:=I.lstM hH
 obtain ⟨z2,its2,n2,r2,hl2,e2⟩:=I.lstM hB
 refine PySem.P.add_list e e2 ?_ (by rw [List.size_toArray,List.size_toArray];omega)
 have ea:its.toArray++its2.toArray=(its++its2).toArray:=by simp
 rw [ea]
 exact ⟨.ref _,_,I.lnew (t':=s.toks) (r.append r2) (by rw [List.length_append];omega),rfl,q _ I.fresh⟩
def Iw:R2:=fun x y H Q=>∃ l k xs,x=.ref l/\y=.int k/\H l=some (.lst xs)/\-(2 ^ 63)<=k/\k<2 ^ 63/\xs.length * k.toNat<=sizeLine/\
 ∀ p,H p=none->Q (.ref p) (upd H p (.lst (List.replicate k.toNat xs).flatten))
theorem pG {α:Type} (xs:List α) (k:Nat):(List.replicate k xs).flatten.length=k * xs.length:=by
 induction k with
 | zero=>simp
 | succ k ih=>rw [List.replicate_succ,List.flatten_cons,List.length_append,ih,Nat.succ_mul,Nat.add_comm]
theorem FJ:OpR X (binaryOp .Mult) Iw:=by
 intro pins s σ H x y v u Q I rx ry h
 obtain ⟨l,k,xs,rfl,rfl,hH,h1,h2,hz,q⟩:=h
 cases rx
 obtain ⟨t,rfl⟩:=ry
 obtain ⟨z,its,n,r,hl,e⟩:=I.lstM hH
 have hlen:its.toArray.size * k.toNat<=sizeLine:=by rw [List.size_toArray,<- hl];exact hz
 have hcap : ¬ its.toArray.size * k.toNat > (2 ^ 63 - 1) / 8:=by
  have:(sizeLine:Nat)<=(2 ^ 63 - 1) / 8:=by decide
  omega
 have hfit : ¬ (!Builtin.List.listFitsIndex k)=true:=by
  rw [fitsIndex_both h1 h2]
  exact Bool.false_ne_true
 have hlong : ¬ Builtin.List.listTooLong (its.toArray.size * k.toNat)=true:=by
  rw [uY hlen]
  exact Bool.false_ne_true
 have hnew:List.foldl (fun x1 x2=>x1++x2) #[] (List.replicate (if its.toArray.isEmpty=true then 0 else k.toNat) its.toArray)=(List.replicate k.toNat its).flatten.toArray:=by
  have f0:∀ m:Nat,List.foldl (fun x1 x2=>x1++x2) #[] (List.replicate m its.toArray)=(List.replicate m its).flatten.toArray:=fun m=>by
   have:=jD its m []
   rw [List.nil_append] at this
   exact this
  rw [f0]
  cases its with
  | nil=>simp
  | cons a r'=>rw [if_neg (by simp)]
 refine wpAny_binaryOp_repeat_ref (T:="list") (U:="int") (by decide) ⟨_,e,rfl⟩ (fun s'=>typeIs_int s' k t) noFill_list_mul F.fills_int_mul F.slot_int_rmul repeat_list F.slot_int_index.lookup
  (call_meets F.slot_int_rmul (typeIs_int s k t) F.entry_int_rmul (F.args_int_rmul_2 _ _) (int___rmul___int_list k t l its.toArray n)
   ⟨e,rfl,⟨_,e,rfl⟩,call_meets F.slot_list_mul ⟨_,e,rfl⟩ F.entry_list_mul (F.args_list_mul_2 _ _) (AutoListH.list___mul___list_int_3 l its.toArray n k t hfit hcap hlong) ⟨e,?_⟩⟩)
 rw [hnew]
 exact ⟨.ref _,_,I.lnew (t':=s.toks) (r.rep k.toNat) (by rw [pG,Nat.mul_comm];exact hz),rfl,q _ I.fresh⟩
end
section
variable {prog:Program} {w:World} {A:Around} {E:Value->Shared->Prop} {s:Shared}
end
section
variable {X:Cx}
end
end L2
namespace Att
open PySem PySem.W PySem.Calls PyProof.Rows
theorem mr {P:Params}:∀ (ns:List Int) (vs:List Value),WellAll P h vs (ns.map WData.int)->IntsAre vs ns:=by
 intro ns
 induction ns with
 | nil=>
  intro vs w
  rw [List.map_nil] at w
  cases w
  exact .nil
 | cons n ns ih=>
  intro vs w
  rw [List.map_cons] at w
  cases w with
  | cons a b=>
   cases a
   exact .cons _ _ (ih _ b)
theorem xB {l:OpenLaw} (hn:l.most=some n) {P:Params} {args:List WData} {vals:List Value}
 (hpre:l.row.toRowW.claim.pre args=true) (hwl:WellAll P h vals args) :
  ∃ a vs ns,vals=[Value.ref a]/\args=[WData.list (ns.map WData.int)]/\h.get? a=some { cls:=.type "list",data:=.seq vs.toArray }/\IntsAre vs ns/\ns.length<=n:=by
 have hsh:WShape.hasAll [] args [.list .int]=true:=(pre_splitW hpre).1
 have hc:l.pre.holds [] { args:=args }=true:=(pre_splitW hpre).2
 obtain ⟨d,r,rfl,h1,h2⟩:=hasAllW_cons hsh
 obtain rfl:=hasAllW_nil h2
 obtain ⟨xs,rfl,h3⟩:=hasW_list h1
 obtain ⟨ns,rfl⟩:=items_int h3
 have hlen:ns.length<=n:=by
  unfold OpenLaw.pre at hc
  have h4:(WTm.not (.lt (.lit (.int (n:Int))) (.len (.arg 0)))).holds [] { args:=[.list (ns.map .int)] }=true:=by
   have h4:=(holds_andW hc).1
   rw [hn] at h4
   exact h4
  have h5:=condW_of h4 (w_not (w_lt w_lit (w_len_list (w_arg rfl))))
  rw [List.length_map] at h5
  refine Nat.le_of_not_lt fun q=>?_
  have q':(n:Int)<((ns.length:Nat):Int):=by omega
  first
   | (rw [decide_eq_true q'] at h5;exact absurd h5 (by decide))
   | (simp at h5;omega)
 cases hwl with
 | cons w1 w2=>
  cases w2
  cases w1 with
  | list ho hall=>exact ⟨_,_,ns,rfl,rfl,ho,mr ns _ hall,hlen⟩
theorem xX (l:OpenLaw) (args:List WData):l.row.toRowW.claim.post args (.bool true) args=true:=
 postW_of (r:=l.row.toRowW) (X:=(true==true))
  (show WShape.has [] (.bool true) .bool=true by first|rfl|decide|simp [WShape.has,WShape.arms,WShape.armsAll])
  (show (WTm.eq .res (.lit (.bool true))).value [] { args:=args,res:=some (.bool true),after:=args }=some (.bool (true==true)) from w_eq_bool (w_res rfl) w_lit) rfl
theorem attach_call {l:OpenLaw} {q:Program} {XP:(Str->Option Value)->Heap->Prop} {YP:World->Heap->Prop} {d:DefRec}
 (hn:l.most=some n) (hdf:d.params.defaults=[])
 (call:∀ (w:World) (L8 K2:Shared) (mg mb:Str->Option Value) (fa:Addr) (o:Obj) (pm cd doc:Value) (a:Addr) (vs:List Value) (ns:List Int),
 Ground q loose [] XP w L8 mg mb K2.heap->YP w K2.heap->
 K2.heap.get? fa=some o->o.data=.func (docDef d.name d.params d.body d.scope pm cd doc)->K2.heap.CodeRec cd d.name->mg d.name=some (.ref fa)->
 K2.heap.get? a=some { cls:=.type "list",data:=.seq vs.toArray }->IntsAre vs ns->ns.length<=n->K2.gens = #[]->
 codeAny (model l.prog w) callerA (.call (.ref fa) ⟨[.ref a],[]⟩) (fun r s'=>r=.ok (.ret (.bool true))/\OldK K2.heap s'.heap/\s'.os=K2.os/\AllBare s'.gens) K2) :
  WalkO q loose XP YP l.row.toRowW d [] (fun f vs=>PySem.call f vs):=by
 intro w L8 K2 mg mb G Y fa o pm cd doc dV kV ho hd hcd hD hmg hg args vals as hpre hlay hrd hwl hlo
 obtain rfl:dV=.none:=Dflts.none hD hdf
 obtain rfl:kV=.none:=Dflts.noKw hD
 obtain ⟨a,vs,ns,rfl,rfl,hobj,hints,hlen⟩:=xB hn hpre hwl
 refine enter_call (codeAny_mono (call w L8 K2 mg mb fa o pm cd doc a vs ns G Y ho (fd_plain hd) hcd hmg hobj hints hlen hg) fun r s' hq=>?_)
 obtain ⟨rfl,h2,h3,h4⟩:=hq
 exact ⟨.inl ⟨.bool true,.bool true,[],rfl,fun _=>rfl,.bool true,xX l _,fun _=>⟨List.Pairwise.nil,fun _ hm=>(nomatch hm)⟩⟩,h2,h3,h4⟩
section
variable {prog:Program} {w:World} {A:Around} {E:Value->Shared->Prop} {s:Shared} {K:Frag}
def IK (h:Heap) (L d:Addr):List (Addr×Obj):=(List.range h.objs.size).filterMap fun a=>if a=L\/a=d then none else (h.get? a).map fun o=>(a,o)
end
end Att
namespace L2
open PySem PySem.Spec PyProof.Rows
theorem rK:∀ {vs:List Value} {ns:List Int},IntsAre vs ns->Vals (ns.map V.int) vs
 | _,_,.nil=>.nil
 | _,_,.cons n t h=>.cons ⟨t,rfl⟩ (rK h)
end L2
namespace L2
open PySem PySem.Spec PyProof.Rows
abbrev KOf {K:W.Frag} {h:Heap} (_:K.In h):W.Frag:=K
end L2
/- THE LAST THEOREM (shape;LID,My.* are yours):
  My.Adr: a structure of the addresses that your layer names (classes,functions);My.Txt K t: a structure (Prop) of the equations over K;
  My.txt_mk:{K} {implicit addresses ..} (e1:nsIn K mainGlobals "law"=some (some (.ref f))) (e2:K.lookup f=some ⟨oc,od,.func (fnOf "law" "law" params body scope dV kV doc pm an cdv ct),sl⟩) (e3:codeIn K cdv "law"=true) .. : ∃ t,My.Txt K t
set_option maxRecDepth 100000 in
set_option maxHeartbeats 0 in
theorem PySem.Challenge.cw_LID_holds : PySem.Challenge.rw_LID.Holds := by
 w_on;o_law;k_head;(case hw=>w_witness2)
 k_fill
 refine L2.walk_of (l:=PySem.Challenge.rw_LID) (n:=63) (k:=40) (x:="script") (CX:=fun w=>..) (sp:=fun _=>My.sp_law) rfl (by decide) rfl ⟨rfl,by decide,by decide⟩ (fun w h Y=>PySem.W.kIn_of Y) ?F ?S ?C
 case F=>
  intro w mg fa h KX G hmg
  have T:∃ t,My.Txt (L2.KOf KX) t:=by
   dsimp only [L2.KOf]
   refine' My.txt_mk ?e1 ?e2 ?e3 ..
   (case e1=>PySem.W.k_is)
   (case e2=>PySem.W.k_is)
   ..
  obtain ⟨t,T⟩:=T
  have e0:=hmg.symm.trans (PySem.W.mg_of KX G T.law)
  cases e0
  exact ⟨_,fun s u=>.of_eq rfl,fun base kb nb=>My.law_fn T kb nb⟩
 case S=>exact fun w H a ns hl hO hS=>..
 case C=>exact ..
(the tactic k_is has no namespace: write k_is) -/
namespace L2
open PySem PySem.Spec PyProof.Rows
def aY (s:Stmt) (j:Nat):Stmt:=match s with
 | .ClassDef _ _ _ body _ _ _ _ _ _ _=>body.getD j (.Pass ⟨0,0,0,0⟩)
 | _=>.Pass ⟨0,0,0,0⟩
def cB (s:Stmt):Arguments:=match s with
 | .FunctionDef _ a _ _ _ _ _ _ _ _=>a
 | _=>{ posonlyargs:=[],args:=[],vararg:=none,kwonlyargs:=[],kw_defaults:=[],kwarg:=none,defaults:=[] }
def bi (s:Stmt):List Stmt:=match s with
 | .FunctionDef _ _ b _ _ _ _ _ _ _=>b
 | _=>[]
def ai (s:Stmt):Scope:=match s with
 | .FunctionDef _ _ _ _ _ _ sc _ _ _=>sc
 | _=>{ kind:=.function,names:=[],isGenerator:=false,isCoroutine:=false }
structure Fun (K:PySem.W.Frag) (x qual:Str) (st:Stmt) (f:Addr) (fd:FuncData):Prop where
 ex:∃ (oc:Value) (od:Option Addr) (kV doc pm:Value) (an:Option Addr) (cdv ct:Value) (osl:Array (Option Value)),
  fd=PySem.W.fnOf x qual (cB st) (bi st) (ai st) .none kV doc pm an cdv ct/\K.lookup f=some ⟨oc,od,.func fd,osl⟩/\PySem.W.codeIn K cdv qual=true
 kp:PySem.W.keepIn K (.ref f)=true
section
variable {P:Program} {w:World} {K:PySem.W.Frag} {mg:Str->Option Value} {base:Heap}
theorem Fun.binds (F:Fun K x qual st f fd)
 (h:∀ (kV doc pm:Value) (an:Option Addr) (cdv ct:Value) (us:List Value),us.length=ps.length->bindArgs (PySem.W.fnOf x qual (cB st) (bi st) (ai st) .none kV doc pm an cdv ct) ⟨us,[]⟩=pure (ps.zip us)):Binds K fd ps []:=by
 obtain ⟨oc,od,kV,doc,pm,an,cdv,ct,osl,rfl,lk,hcd⟩:=F.ex
 exact .all (h kV doc pm an cdv ct)
theorem vy {kV ct:Value} (l:K.lookup f=some ⟨oc,od,.func (PySem.W.fnOf x qual (cB st) (bi st) (ai st) .none kV doc pm an cdv ct),osl⟩)
 (c:PySem.W.codeIn K cdv qual=true) (k:PySem.W.keepIn K (.ref f)=true):Fun K x qual st f (PySem.W.fnOf x qual (cB st) (bi st) (ai st) .none kV doc pm an cdv ct):=⟨⟨oc,od,kV,doc,pm,an,cdv,ct,osl,rfl,l,c⟩,k⟩
end
section
variable {X:Cx}
end
def Same (H H':Hp):Prop:=∀ b o,H b=some o->H' b=some o
theorem Same.refl (H:Hp):Same H H:=fun _ _ h=>h
theorem Same.trans {H2:Hp} (a:Same H H1) (b:Same H1 H2):Same H H2:=fun c o h=>b c o (a c o h)
theorem Same.free (e:Same H H') {l:Addr} (h:H' l=Option.none):H l=Option.none:=by
 cases q:H l with
 | none=>rfl
 | some o=>
  rw [e l o q] at h
  cases h
theorem Same.seq {K:PySem.W.Frag} (e:Same H H') (h:SqL K H a xs):SqL K H' a xs:=by
 rcases h with (h|⟨o,h⟩)|h
 ·exact .inl (.inl (e _ _ h))
 ·exact .inl (.inr ⟨o,e _ _ h⟩)
 ·exact .inr h
end L2
set_option maxRecDepth 100000
set_option maxHeartbeats 4000000
namespace L2
open PySem PySem.Spec PyProof.Rows
inductive D where
 | non|bl (b:Bool)|int (i:Int)|str (x:List Nat)|tup (xs:List D)|lst (fz:Bool) (xs:List D)|exc (C:Addr)
def hW (a C:Addr):Heap->Prop:=fun h=>∃ ob,h.get? a=some ob/\ob.cls=.ref C
mutual
inductive Rep (K:PySem.W.Frag) (G:Hp):V->D->Prop
 | non:Rep K G .non .non
 | bl (b:Bool):Rep K G (.bl b) (.bl b)
 | int (i:Int):Rep K G (.int i) (.int i)
 | str (x:Str) (h:x.length<=sizeLine):Rep K G (.str x) (.str x.cps.toList)
 | tup {a:Addr} {vs:List V} {ds:List D} (h:SqT K G a vs) (r:Reps K G vs ds):Rep K G (.ref a) (.tup ds)
 | lst {a:Addr} {vs:List V} {ds:List D} (h:G a=some (.lst vs)) (r:Reps K G vs ds):Rep K G (.ref a) (.lst false ds)
 | fls {a:Addr} {vs:List V} {ds:List D} (h:SqL K G a vs) (r:Reps K G vs ds):Rep K G (.ref a) (.lst true ds)
 | exc {a C:Addr} (h:G a=some (.ext (hW a C))):Rep K G (.ref a) (.exc C)
inductive Reps (K:PySem.W.Frag) (G:Hp):List V->List D->Prop
 | nil:Reps K G [] []
 | cons {v:V} {d:D} {vs:List V} {ds:List D} (r:Rep K G v d) (t:Reps K G vs ds):Reps K G (v::vs) (d::ds)
end
section
variable {K:PySem.W.Frag} {G G' H H' G1 H1 G2 H2:Hp}
theorem SqT.mono (e:Same G G') (h:SqT K G a xs):SqT K G' a xs:=by
 rcases h with (h|⟨o,h⟩)|h
 ·exact .inl (.inl (e _ _ h))
 ·exact .inl (.inr ⟨o,e _ _ h⟩)
 ·exact .inr h
theorem SqL.mono (e:Same G G') (h:SqL K G a xs):SqL K G' a xs:=e.seq h
mutual
theorem Rep.mono (e:Same G G'):∀ {v:V} {d:D},Rep K G v d->Rep K G' v d
 | _,_,.non=>.non
 | _,_,.bl b=>.bl b
 | _,_,.int i=>.int i
 | _,_,.str x h=>.str x h
 | _,_,.tup h r=>.tup (h.mono e) (Reps.mono e r)
 | _,_,.lst h r=>.lst (e _ _ h) (Reps.mono e r)
 | _,_,.fls h r=>.fls (h.mono e) (Reps.mono e r)
 | _,_,.exc h=>.exc (e _ _ h)
theorem Reps.mono (e:Same G G'):∀ {vs:List V} {ds:List D},Reps K G vs ds->Reps K G' vs ds
 | _,_,.nil=>.nil
 | _,_,.cons r t=>.cons (Rep.mono e r) (Reps.mono e t)
end
section inv
variable {v:V}
theorem Rep.int_inv {i:Int} (r:Rep K G v (.int i)):v=.int i:=by cases r;rfl
theorem Rep.bl_inv {b:Bool} (r:Rep K G v (.bl b)):v=.bl b:=by cases r;rfl
theorem Rep.non_inv (r:Rep K G v .non):v=.non:=by cases r;rfl
theorem Rep.str_inv {x:List Nat} (r:Rep K G v (.str x)):∃ y:Str,v=.str y/\y.cps.toList=x/\y.length<=sizeLine:=by
 generalize e:D.str x=d at r
 cases r with
 | str y h=>cases e;exact ⟨y,rfl,rfl,h⟩
 | _=>cases e
theorem Rep.tup_inv {ds:List D} (r:Rep K G v (.tup ds)):∃ a vs,v=.ref a/\SqT K G a vs/\Reps K G vs ds:=by
 cases r with
 | tup h t=>exact ⟨_,_,rfl,h,t⟩
theorem Rep.lst_inv {ds:List D} (r:Rep K G v (.lst false ds)):∃ a vs,v=.ref a/\G a=some (.lst vs)/\Reps K G vs ds:=by
 cases r with
 | lst h t=>exact ⟨_,_,rfl,h,t⟩
theorem Rep.seq_inv {f:Bool} {ds:List D} (r:Rep K G v (.lst f ds)):∃ a vs,v=.ref a/\SqL K G a vs/\Reps K G vs ds:=by
 cases r with
 | lst h t=>exact ⟨_,_,rfl,.of h,t⟩
 | fls h t=>exact ⟨_,_,rfl,h,t⟩
theorem Rep.exc_inv (r:Rep K G v (.exc C)):∃ a,v=.ref a/\G a=some (.ext (hW a C)):=by
 cases r with
 | exc h=>exact ⟨_,rfl,h⟩
theorem Rep.strL {x:List Nat} (e:y.cps.toList=x) (h:x.length<=sizeLine):Rep K G (.str y) (.str x):=by
 subst e;exact .str y (by simpa [Str.length] using h)
end inv
theorem Reps.length:∀ {vs:List V} {ds:List D},Reps K G vs ds->vs.length=ds.length
 | _,_,.nil=>rfl
 | _,_,.cons _ t=>by simp [Reps.length t]
theorem Reps.get:∀ {vs:List V} {ds:List D} {i:Nat} {d:D},Reps K G vs ds->ds[i]?=some d->∃ v,vs[i]?=some v/\Rep K G v d
 | _,_,_,_,.nil,e=>by simp at e
 | _,_,0,_,.cons r _,e=>by simp at e;subst e;exact ⟨_,rfl,r⟩
 | _,_,i+1,d,.cons _ t,e=>by
  obtain ⟨v,h1,h2⟩:=Reps.get (i:=i) (d:=d) t (by simpa using e)
  exact ⟨v,by simpa using h1,h2⟩
theorem Reps.append:∀ {vs ws:List V} {ds es:List D},Reps K G vs ds->Reps K G ws es->Reps K G (vs++ws) (ds++es)
 | _,_,_,_,.nil,s=>s
 | _,_,_,_,.cons r t,s=>.cons r (Reps.append t s)
theorem Reps.take:∀ {vs:List V} {ds:List D} (n:Nat),Reps K G vs ds->Reps K G (vs.take n) (ds.take n)
 | _,_,0,_=>by simpa using Reps.nil
 | _,_,_+1,.nil=>.nil
 | _,_,n+1,.cons r t=>.cons r (Reps.take n t)
theorem Reps.drop:∀ {vs:List V} {ds:List D} (n:Nat),Reps K G vs ds->Reps K G (vs.drop n) (ds.drop n)
 | _,_,0,r=>r
 | _,_,_+1,.nil=>.nil
 | _,_,n+1,.cons _ t=>Reps.drop n t
theorem Reps.rep {ds:List D} (r:Reps K G vs ds):∀ n:Nat,Reps K G (List.replicate n vs).flatten (List.replicate n ds).flatten
 | 0=>.nil
 | n+1=>by
  simp only [List.replicate_succ,List.flatten_cons]
  exact Reps.append r (Reps.rep r n)
structure Up (G H G' H':Hp):Prop where
 sub:Same G' H'
 gg:Same G G'
 hh:Same H H'
 fr:∀ a o,G' a=some o->G a=some o\/H a=none
theorem Up.refl (s:Same G H):Up G H G H:=⟨s,.refl _,.refl _,fun _ _ h=>.inl h⟩
theorem Up.trans (a:Up G H G1 H1) (b:Up G1 H1 G2 H2):Up G H G2 H2:=⟨b.sub,a.gg.trans b.gg,a.hh.trans b.hh,fun c o h=>by
 rcases b.fr c o h with h|h
 ·exact a.fr c o h
 ·exact .inr (a.hh.free h)⟩
theorem Same.both {p:Addr} (s:Same G H):Same (upd G p o) (upd H p o):=fun a u h=>by
 unfold L2.upd at h ⊢
 split
 ·rename_i e;rw [if_pos e] at h;exact h
 ·rename_i e;rw [if_neg e] at h;exact s a u h
theorem Same.into {p:Addr} (h:H p=none):Same H (upd H p o):=fun a u e=>by
 rw [aL (aO e h)];exact e
theorem Up.new {p:Addr} (s:Same G H) (hp:H p=none):Up G H (upd G p o) (upd H p o):=
 ⟨s.both,.into (s.free hp),.into hp,fun a u h=>by
  by_cases e:a=p
  ·subst e;exact .inr hp
  ·rw [aL e] at h;exact .inl h⟩
end
inductive R (α:Type) where
 | ok (a:α)|ex (C:Addr)|no
def R.bind {α β:Type}:R α->(α->R β)->R β
 | .ok a,f=>f a
 | .ex C,_=>.ex C
 | .no,_=>.no
instance:Monad R where
 pure:=.ok
 bind:=R.bind
section
variable {α β:Type}
@[simp] theorem R.ok_bind (a:α) (f:α->R β):(R.ok a>>=f)=f a:=rfl
def R.post (m:R α) (P:α->Prop) (E:Addr->Prop):Prop:=match m with
 | .ok a=>P a
 | .ex C=>E C
 | .no=>False
theorem R.post.mono {m:R α} {P P':α->Prop} {E E':Addr->Prop} (h:m.post P E) (hp:∀ a,P a->P' a) (he:∀ C,E C->E' C):m.post P' E':=by
 cases m with
 | ok a=>exact hp a h
 | ex C=>exact he C h
 | no=>exact h
def ofO:Option α->R α
 | some a=>.ok a
 | none=>.no
@[simp] theorem cE (a:α):ofO (some a)=R.ok a:=rfl
theorem ofO.ok {o:Option α} {P:α->Prop} {E:Addr->Prop} (h:(ofO o).post P E):∃ a,o=some a/\P a:=by
 cases o with
 | none=>exact h.elim
 | some a=>exact ⟨a,rfl,h⟩
end
inductive Fd where
 | val (d:D)|own (ds:List D)
inductive Sl where
  | val (d : D)
  /-- a list that no other name, and no datum, holds -/
  | own (ds : List D)
  /-- an instance of the class at C, at p, that no other name, and no datum, holds; m: it may be changed -/
  | obj (m : Bool) (C p : Addr) (fs : List (Nat × Fd))
abbrev Ev:=List (Option Sl)
def rdV (Z:Ev) (i:Nat):R D:=match Z[i]? with
 | some (some (.val d))=>.ok d
 | _=>.no
abbrev rvz(i:Nat):Ev->R D:=fun Z=>rdV Z i
abbrev ciz(n:Int):Ev->R D:=fun _=>R.ok (D.int n)
abbrev nlz:Ev->R (List D):=fun _=>R.ok []
abbrev csz(x:List Nat):Ev->R D:=fun _=>R.ok (D.str x)
def fnames:List Str:=["states","taken_back","width","screen","last_notes","tasks","numbers_given"]
def cq (k:Nat):Str:=fnames.getD k ""
abbrev jF:=Addr->Option (Nat×Nat)
def FdAt (K:PySem.W.Frag) (K0 G H:Hp) (ow:jF) (i:Nat) (m:Bool) (k:Nat):Fd->V->Prop
 | .val d,v=>Rep K G v d
 | .own ds,v=>∃ l ws,v=.ref l/\H l=some (.lst ws)/\G l=none/\(m=true->K0 l=none)/\Reps K G ws ds/\ow l=some (i,k+1)
inductive FdsAt (K:PySem.W.Frag) (K0 G H:Hp) (ow:jF) (i:Nat) (m:Bool):List (Nat×Fd)->List (Str×V)->Prop
 | nil:FdsAt K K0 G H ow i m [] []
 | cons {k:Nat} {fd:Fd} {v:V} {fs:List (Nat×Fd)} {vs:List (Str×V)} (h:k<fnames.length) (nk:fs.lookup k=none) (r:FdAt K K0 G H ow i m k fd v) (t:FdsAt K K0 G H ow i m fs vs):FdsAt K K0 G H ow i m ((k,fd)::fs) ((cq k,v)::vs)
noncomputable def ObjAt (K:PySem.W.Frag) (K0 G H:Hp) (ow:jF) (i:Nat) (m:Bool) (C p:Addr) (fs:List (Nat×Fd)):Prop:=
 ∃ dx vs,H p=some (.ins C dx vs)/\H dx=some (.own p)/\G p=none/\G dx=none/\(m=true->K0 p=none/\K0 dx=none)/\ow p=some (i,0)/\ow dx=some (i,0)/\FdsAt K K0 G H ow i m fs vs
section
variable {K:PySem.W.Frag} {K0 K7 G H G' H':Hp} {ow ow':jF} {i:Nat}
structure ObKeep (K0 K7 G H G' H':Hp) (ow ow':jF) (i:Nat):Prop where
 hh:∀ a t o,ow a=some (i,t)->H a=some o->H' a=some o
 gg:Same G G'
 gn:∀ a t o,ow a=some (i,t)->H a=some o->G a=none->G' a=none
 oo:∀ a t o,ow a=some (i,t)->H a=some o->ow' a=some (i,t)
 h0:∀ a o,H a=some o->G a=none->K0 a=none->K7 a=none
theorem FdAt.keep (k:ObKeep K0 K7 G H G' H' ow ow' i) {m:Bool}:∀ {fd:Fd} {v:V},FdAt K K0 G H ow i m n fd v->FdAt K K7 G' H' ow' i m n fd v
 | .val d,v,r=>Rep.mono k.gg (show Rep K G v d from r)
 | .own ds,v,⟨l,ws,e,h1,h2,h3,h4,h5⟩=>⟨l,ws,e,k.hh l _ _ h5 h1,k.gn l _ _ h5 h1 h2,fun z=>k.h0 l _ h1 h2 (h3 z),h4.mono k.gg,k.oo l _ _ h5 h1⟩
theorem FdsAt.keep (k:ObKeep K0 K7 G H G' H' ow ow' i) {m:Bool}:∀ {fs:List (Nat×Fd)} {vs:List (Str×V)},FdsAt K K0 G H ow i m fs vs->FdsAt K K7 G' H' ow' i m fs vs
 | _,_,.nil=>.nil
 | _,_,.cons h nk r t=>.cons h nk (FdAt.keep k r) (FdsAt.keep k t)
theorem ObjAt.keep (k:ObKeep K0 K7 G H G' H' ow ow' i) {m:Bool} {p:Addr} {fs:List (Nat×Fd)} (h:ObjAt K K0 G H ow i m C p fs):ObjAt K K7 G' H' ow' i m C p fs:=by
 obtain ⟨dx,vs,h1,h2,h3,h4,h5,h6,h7,h8⟩:=h
 exact ⟨dx,vs,k.hh p _ _ h6 h1,k.hh dx _ _ h7 h2,k.gn p _ _ h6 h1 h3,k.gn dx _ _ h7 h2 h4,fun z=>⟨k.h0 p _ h1 h3 (h5 z).1,k.h0 dx _ h2 h4 (h5 z).2⟩,k.oo p _ _ h6 h1,k.oo dx _ _ h7 h2,h8.keep k⟩
theorem ObKeep.up (u:Up G H G' H'):ObKeep K0 K0 G H G' H' ow ow i:=by
 have gn:∀ a o,H a=some o->G a=none->G' a=none:=fun a o e n=>by
  cases q:G' a with
  | none=>rfl
  | some o'=>
   rcases u.fr a o' q with z|z
   ·rw [n] at z;cases z
   ·rw [e] at z;cases z
 exact ⟨fun a t o _ e=>u.hh a o e,u.gg,fun a t o _ e n=>gn a o e n,fun a t o e _=>e,fun a o _ _ n=>n⟩
end
theorem ObjAt.rd {K:PySem.W.Frag} {K0:Hp} {ow:jF} {m:Bool} {p:Addr} {fs:List (Nat×Fd)} (h:ObjAt K K0 G H ow i m C p fs):ObjAt K (fun _=>none) G H ow i m C p fs:=
 h.keep ⟨fun _ _ _ _ e=>e,.refl _,fun _ _ _ _ _ n=>n,fun _ _ _ e _=>e,fun _ _ _ _ _=>rfl⟩
structure StE (K:PySem.W.Frag) (G H:Hp) (σ:St) (Z:Ev):Prop where
 sub:Same G H
 len:σ.length=Z.length
 val:∀ (i:Nat) d,Z[i]?=some (some (.val d))->∃ v,σ[i]?=some (some v)/\Rep K G v d
 obs:∀ (i:Nat) m C p fs,Z[i]?=some (some (.obj m C p fs))->σ[i]?=some (some (.ref p))/\∃ ow,ObjAt K (fun _=>none) G H ow i m C p fs
theorem StE.up {K:PySem.W.Frag} {G':Hp} {Z:Ev} (s:StE K G H σ Z) (u:Up G H G' H'):StE K G' H' σ Z:=
 ⟨u.sub,s.len,fun i d e=>let ⟨v,h1,h2⟩:=s.val i d e;⟨v,h1,h2.mono u.gg⟩,fun i m C p fs e=>let ⟨h1,ow,h2⟩:=s.obs i m C p fs e;⟨h1,ow,h2.keep (.up u)⟩⟩
noncomputable def Cc (P:Program) (w:World) (outer:List Env) (H:Hp) (s:Shared) (a C:Addr) (H':Hp) (s':Shared):Prop:=
 s'.os=s.os/\AllBare s'.gens/\Un (frs outer) [] H H' s.heap s'.heap/\HOk P w H' s'.heap/\H' a=none/\
 ∃ (B:Heap) (a0:Value),Heap.FlyingW B outer a (.ref C) a0 s'.heap/\∀ b o,b ∉ frs outer->((∃ o0,s.heap.get? b=some o0)\/∃ u,H' b=some u)->s'.heap.get? b=some o->B.get? b=some o
def CXo (P:Program) (w:World):CXT:=fun outer H s E e s'=>∃ a C H',e=.ref a/\Cc P w outer H s a C H' s'/\E (.ref C) none H'
def Hj (X:Cx) (pins:List (Addr×Obj)) (b:Addr):Prop:=
 (b∈X.ex\/X.L8.heap.objs.size<=b)/\b≠X.env.locals/\(∀ x c,X.env.cells.lookup x=some c->c≠b)/\∀ p∈X.pn++pins,p.1≠b
noncomputable def Be (X:Cx) (pins:List (Addr×Obj)) (L:Addr) (H:Hp) (s:Shared) (a C:Addr) (H':Hp) (s':Shared):Prop:=
 s'.os=s.os/\AllBare s'.gens/\(∃ ch,(∀ b∈ch,Hj X pins b)/\Un (frs X.stack) ch H H' s.heap s'.heap)/\HOk X.prog X.w H' s'.heap/\H' a=none/\s.heap.get? a=none/\
 ∃ (B:Heap) (a0:Value),Heap.HeldW B X.stack a (.ref C) a0 L s'.heap/\∀ b o,b ∉ frs X.stack->((∃ o0,s.heap.get? b=some o0)\/∃ u,H' b=some u)->s'.heap.get? b=some o->B.get? b=some o
noncomputable def IE (X:Cx) (σ:St) (K5 K6:Hp) (C:Addr) (e:Value) (s':Shared):Prop:=
 ∃ pins K2 a,e=.ref a/\Inv X pins σ K6 K2/\
  ((∃ h' vs,Heap.MadeExcOf K2.heap h' a (.ref C) vs/\s'={ K2 with heap:=h' })\/(∃ G' H',Cc X.prog X.w X.stack K6 K2 a C H' s'/\Up K5 K6 G' H')\/∃ G' H' L,X.env.frame=some L/\Be X pins L K6 K2 a C H' s'/\Up K5 K6 G' H')
def Fly (X:Cx) (σ:St) (G H:Hp) (C:Addr) (e:Value) (s':Shared):Prop:=∃ K5 K6,Up G H K5 K6/\IE X σ K5 K6 C e s'
theorem Fly.up {G1:Hp} {e:Value} (u:Up G H G1 H1) (f:Fly X σ G1 H1 C e s'):Fly X σ G H C e s':=
 let ⟨G2,H2,v,q⟩:=f;⟨G2,H2,u.trans v,q⟩
section
variable {α β:Type}
def Fin (G H:Hp) (rep:Hp->β->α->Prop) (Q:β->Hp->Prop):α->Prop:=fun d=>∀ v G' H',Up G H G' H'->rep G' v d->Q v H'
def Exx (X:Cx) (σ:St) (G H:Hp):Addr->Prop:=fun C=>∀ e s',Fly X σ G H C e s'->X.xe e s'
theorem Fin.up {G1:Hp} {rep:Hp->β->α->Prop} {Q:β->Hp->Prop} {d:α} (u:Up G H G1 H1) (h:Fin G H rep Q d):Fin G1 H1 rep Q d:=fun v G' H' u' r=>h v G' H' (u.trans u') r
theorem Exx.up {G1:Hp} (u:Up G H G1 H1) (h:Exx X σ G H C):Exx X σ G1 H1 C:=fun e s' f=>h e s' (f.up u)
theorem oQ {G1:Hp} {rep:Hp->β->α->Prop} {Q:β->Hp->Prop} {m:R α} (u:Up G H G1 H1) (h:m.post (Fin G H rep Q) (Exx X σ G H)):m.post (Fin G1 H1 rep Q) (Exx X σ G1 H1):=
 h.mono (fun _=>Fin.up u) fun _=>Exx.up u
def tG (X:Cx) (rep:Hp->β->α->Prop) (g:Ev->R α):St->Hp->(β->Hp->Prop)->Prop:=fun σ H Q=>∃ G Z,StE X.K G H σ Z/\(g Z).post (Fin G H rep Q) (Exx X σ G H)
theorem tG.intro {γ δ:Type} {Z:Ev} {rep:Hp->β->α->Prop} {rep':Hp->δ->γ->Prop} {g:Ev->R α} {k:α->R γ} {Q:β->Hp->Prop} {Q':δ->Hp->Prop} (st:StE X.K G H σ Z)
 (h:(g Z>>=k).post (Fin G H rep' Q') (Exx X σ G H)) (hk:∀ a,∀ v G1 H1,Up G H G1 H1->StE X.K G1 H1 σ Z->rep G1 v a->(k a).post (Fin G1 H1 rep' Q') (Exx X σ G1 H1)->Q v H1):tG X rep g σ H Q:=by
 refine ⟨G,Z,st,?_⟩
 cases e:g Z with
 | ok a=>rw [e] at h;exact fun v G' H' u r=>hk a v G' H' u (st.up u) r (oQ u h)
 | ex C=>rw [e] at h;exact h
 | no=>rw [e] at h;exact h
theorem tG.last {Z:Ev} {rep:Hp->β->α->Prop} {g:Ev->R α} {Q:β->Hp->Prop} (st:StE X.K G H σ Z) (h:(g Z).post (Fin G H rep Q) (Exx X σ G H)):tG X rep g σ H Q:=⟨G,Z,st,h⟩
end
abbrev tF (X:Cx) (g:Ev->R D):TE:=tG X (Rep X.K) g
abbrev tTF (X:Cx) (g:Ev->R Bool):TT:=tG X (fun _ b c=>b=c) g
abbrev tAF (X:Cx) (g:Ev->R (List D)):TA:=tG X (Reps X.K) g
def QF (X:Cx) (e:Expr) (g:Ev->R D):Prop:=PE X e (tF X g)
def QB (X:Cx) (e:Expr) (g:Ev->R Bool):Prop:=PT X e (tTF X g)
def QBW (X:Cx) (e:Expr) (g:Ev->R Bool):Prop:=PW X e (tTF X g)
def QFA (X:Cx) (es:List Expr) (g:Ev->R (List D)):Prop:=PA X es (tAF X g)
end L2
variable {g F1 ao bw ax aw au:List L2.D->L2.R L2.D} {ds:List L2.D} {ow:L2.jF} {Z:L2.Ev} {d:L2.D} {gl gi:L2.Ev->L2.R (List L2.D)} {asg:L2.D->L2.Ev->L2.R L2.Ev} {fs':List (Nat×L2.Fd)} {gb:L2.Ev->L2.R L2.D} {az:L2.R L2.D->L2.R L2.D}
namespace L2
open PySem PySem.Spec PyProof.Rows
theorem rdV.ok {P:D->Prop} {E:Addr->Prop} (h:(rdV Z i).post P E):∃ d,Z[i]?=some (some (.val d))/\P d:=by
 unfold rdV at h
 split at h
 ·rename_i d e;exact ⟨d,e,h⟩
 ·exact h.elim
section
variable {X:Cx} {e a b c:Expr} {ga gb gc:Ev->R D} {pos:Pos}
theorem kX (i:Nat) (hN:X.N[i]?=some x:=by rfl) (hv:Vis X.env.scope x:=by first|exact Or.inl rfl|exact Or.inr (Or.inl rfl)|exact Or.inr (Or.inr rfl)) (hd:(x==("__debug__":Str))=false:=by decide)
 (hcd:(x==("__classdict__":Str))=false:=by decide):QF X (.Name x pos) (fun Z=>rdV Z i):=by
 intro pins s σ H Q I h
 obtain ⟨G,Z,st,h⟩:=h
 refine cw hN hv hd hcd pins s σ H Q I ?_
 obtain ⟨d,e,q⟩:=rdV.ok h
 obtain ⟨v,e',r⟩:=st.val i d e
 exact ⟨v,e',q v G H (.refl st.sub) r⟩
theorem dS (h:PE X e (tC v)) (hr:∀ K G,Rep K G v d):QF X e (fun _=>.ok d):=by
 intro pins s σ H Q I q
 obtain ⟨G,Z,st,q⟩:=q
 exact h pins s σ H Q I (q v G H (.refl st.sub) (hr _ _))
def ROk (K:PySem.W.Frag) (r:R2) (f:D->D->Option D):Prop:=∀ (G H:Hp) (x y:V) (dx dy d:D) (Q:VK),Same G H->Rep K G x dx->Rep K G y dy->f dx dy=some d->Fin G H (Rep K) Q d->r x y H Q
def g2 (f:D->D->Option D) (ga gb:Ev->R D):Ev->R D:=fun Z=>ga Z>>=fun x=>gb Z>>=fun y=>ofO (f x y)
theorem Ag {r:R2} {f:D->D->Option D} (hf:ROk X.K r f) {Q:VK} (h:tF X (g2 f ga gb) σ H Q):tOp r (tF X ga) (tF X gb) σ H Q:=by
 obtain ⟨G,Z,st,h⟩:=h
 refine tG.intro st h fun x v G1 H1 u1 st1 r1 h1=>?_
 refine tG.intro st1 h1 fun y w G2 H2 u2 st2 r2 h2=>?_
 obtain ⟨d,e,q⟩:=ofO.ok h2
 exact hf G2 H2 v w x y d Q st2.sub (r1.mono u2.gg) r2 e q
theorem iM {op:Operator} {r:R2} {f:D->D->Option D} (ho:OpR X (binaryOp op) r) (hf:ROk X.K r f) (ha:QF X a ga) (hb:QF X b gb):QF X (.BinOp a op b pos) (g2 f ga gb):=
 fun pins s σ H Q I h=>Ih ho ha hb pins s σ H Q I (Ag hf h)
theorem kT {op:CmpOp} {r:R2} {f:D->D->Option D} (ho:OpR X (compareOp op) r) (hf:ROk X.K r f) (ha:QF X a ga) (hb:QF X b gb) (hm:behindInMarks op b=false):QF X (.Compare a [op] [b] pos) (g2 f ga gb):=
 fun pins s σ H Q I h=>Cq ho ha hb hm pins s σ H Q I (Ag hf h)
def g3 (f f':D->D->Option D) (ga gb gc:Ev->R D):Ev->R D:=fun Z=>ga Z>>=fun x=>gb Z>>=fun y=>ofO (f x y)>>=fun z=>match z with
 | .bl true=>gc Z>>=fun w=>ofO (f' y w)
 | .bl false=>.ok (.bl false)
 | _=>.no
theorem wf {op op':CmpOp} {r r':R2} {f f':D->D->Option D} (ho:OpR X (compareOp op) r) (ho':OpR X (compareOp op') r') (hf:ROk X.K r f) (hf':ROk X.K r' f') (ha:QF X a ga) (hb:QF X b gb) (hc:QF X c gc)
 (hm:lastMarks [op,op'] [b,c]=false:=by with_unfolding_all rfl):QF X (.Compare a [op,op'] [b,c] pos) (g3 f f' ga gb gc):=by
 intro pins s σ H Q I h
 refine AY ho ho' ha hb hc hm pins s σ H Q I ?_
 obtain ⟨G,Z,st,h⟩:=h
 refine tG.intro st h fun x v G1 H1 u1 st1 r1 h1=>?_
 refine tG.intro st1 h1 fun y w G2 H2 u2 st2 r2 h2=>?_
 cases e:f x y with
 | none=>rw [e] at h2;exact h2.elim
 | some d=>
  rw [e] at h2
  refine hf G2 H2 v w x y d _ st2.sub (r1.mono u2.gg) r2 e fun z G3 H3 u3 r3=>?_
  have h3:=oQ u3 h2
  have st3:=st2.up u3
  cases r3 with
  | bl k=>
   refine ⟨k,rfl,?_⟩
   cases k with
   | false=>rw [if_neg Bool.false_ne_true];exact h3 _ G3 H3 (.refl st3.sub) (.bl false)
   | true=>
    rw [if_pos rfl]
    refine tG.intro st3 (show (gc Z>>=fun w=>ofO (f' y w)).post _ _ from h3) fun q vq G4 H4 u4 st4 r4 h4=>?_
    obtain ⟨d,e',q'⟩:=ofO.ok h4
    exact hf' G4 H4 w vq y q d Q st4.sub ((r2.mono u3.gg).mono u4.gg) r4 e' q'
  | _=>exact h3.elim
end
section
variable {X:Cx}
noncomputable def bL:D->D->Option D
 | .int i,.int j=>some (.int (i+j))
 | .str x,.str y=>if x.length+y.length<=sizeLine then some (.str (x++y)) else none
 | .lst false xs,.lst false ys=>if xs.length+ys.length<=sizeLine then some (.lst false (xs++ys)) else none
 | .tup xs,.tup ys=>if xs.length+ys.length<=sizeLine then some (.tup (xs++ys)) else none
 | _,_=>none
noncomputable def Bo (K:PySem.W.Frag):R2:=fun x y H Q=>∃ a b xs ys,x=.ref a/\y=.ref b/\SqT K H a xs/\SqT K H b ys/\xs.length+ys.length<=sizeLine/\
 (xs=[]->Q (.ref b) H)/\(xs≠[]->ys=[]->Q (.ref a) H)/\(xs≠[]->ys≠[]->∀ p,H p=none->Q (.ref p) (upd H p (.tup (xs++ys))))
theorem AE:OpR X (binaryOp .Add) (Bo X.K):=by
 intro pins s σ H x y v u Q I rx ry h
 obtain ⟨a,b,xs,ys,rfl,rfl,ha,hb,hz,q0,q1,q2⟩:=h
 by_cases hx:xs=[]
 ·cases rx
  cases ry
  obtain ⟨its,r1,p1,_⟩:=I.tuple ha
  obtain ⟨its2,r2,p2,_⟩:=I.tuple hb
  have hi:its=[]:=r1.nil_iff.mpr hx
  obtain ⟨⟨cls,dd,data,sl⟩,ho,hc,n,hd⟩:=id p1
  obtain ⟨⟨cls2,dd2,data2,sl2⟩,ho2,hc2,n2,hd2⟩:=id p2
  simp only at hc hd hc2 hd2
  subst hc hd hc2 hd2
  exact concat_meets ⟨_,ho,rfl⟩ ⟨_,ho2,rfl⟩ noFill_tuple_add seq_tuple_add PySem.F.slot_tuple_add PySem.F.entry_tuple_add (PySem.F.args_tuple_add_2 _ _)
   (tuple_addW0 a b its.toArray its2.toArray n n2 dd dd2 sl sl2 (by simp [hi])) ⟨ho,ho2,.ref b,H,I,rfl,q0 hx⟩
 ·exact BR pins s σ H _ _ v u Q I rx ry ⟨a,b,xs,ys,rfl,rfl,ha,hb,hx,hz,q1 hx,q2 hx⟩
def Fy (K:PySem.W.Frag):R2:=fun x y H Q=>(rI0 fun i j=>.int (i+j)) x y H Q\/(∃ i j,x=.str i/\y=.str j/\i.length+j.length<=sizeLine/\Q (.str (i++j)) H)\/IB x y H Q\/Bo K x y H Q
theorem Dj:OpR X (binaryOp .Add) (Fy X.K):=op_add.or (op_add_str.or (op_cat.or AE))
theorem Str.app_list (x y:Str):(x++y).cps.toList=x.cps.toList++y.cps.toList:=by
 show (x.cps++y.cps).toList=_
 simp
theorem Str.len_list (x:Str):x.cps.toList.length=x.length:=by simp [Str.length]
theorem FU (K:PySem.W.Frag):ROk K (Fy K) bL:=by
 intro G H x y dx dy d Q s rx ry e q
 unfold bL at e
 split at e
 ·cases e
  exact .inl ⟨_,_,rx.int_inv,ry.int_inv,q _ G H (.refl s) (.int _)⟩
 ·split at e
  ·rename_i hz
   cases e
   obtain ⟨i,rfl,ei,hi⟩:=rx.str_inv
   obtain ⟨j,rfl,ej,hj⟩:=ry.str_inv
   subst ei ej
   rw [Str.len_list,Str.len_list] at hz
   exact .inr (.inl ⟨i,j,rfl,rfl,hz,q _ G H (.refl s) (.strL (Str.app_list i j) (by rw [List.length_append,Str.len_list,Str.len_list];exact hz))⟩)
  ·cases e
 ·split at e
  ·rename_i hz
   cases e
   obtain ⟨a,vs,rfl,ha,ra⟩:=rx.lst_inv
   obtain ⟨b,ws,rfl,hb,rb⟩:=ry.lst_inv
   refine .inr (.inr (.inl ⟨a,b,vs,ws,rfl,rfl,s _ _ ha,s _ _ hb,by rw [ra.length,rb.length];exact hz,fun p hp=>q _ _ _ (.new s hp) (.lst aX ?_)⟩))
   exact (ra.append rb).mono (.into (s.free hp))
  ·cases e
 ·split at e
  ·rename_i hz
   cases e
   obtain ⟨a,vs,rfl,ha,ra⟩:=rx.tup_inv
   obtain ⟨b,ws,rfl,hb,rb⟩:=ry.tup_inv
   refine .inr (.inr (.inr ⟨a,b,vs,ws,rfl,rfl,ha.mono s,hb.mono s,by rw [ra.length,rb.length];exact hz,fun z=>?_,fun _ z=>?_,fun _ _ p hp=>?_⟩))
   ·subst z
    cases ra
    exact q _ G H (.refl s) (.tup hb rb)
   ·subst z
    cases rb
    rw [List.append_nil] at q
    exact q _ G H (.refl s) (.tup ha ra)
   ·exact q _ _ _ (.new s hp) (.tup (.of aX) ((ra.append rb).mono (.into (s.free hp))))
  ·cases e
 ·cases e
def xh:D->D->Option D
 | .int i,.int j=>some (.int (i - j))
 | _,_=>none
def AG:D->D->Option D
 | .int i,.int j=>if 0<j/\j<1073741824 then some (.int (i / j)) else none
 | _,_=>none
def xG:D->D->Option D
 | .int i,.int j=>if 0<j then some (.int (i % j)) else none
 | _,_=>none
end
end L2
namespace L2
open PySem PySem.Spec PyProof.Rows
section
variable {X:Cx} {a b c e:Expr} {ga gb gc:Ev->R D} {pos:Pos}
def leD:D->D->Option D
 | .int i,.int j=>some (.bl (decide (i<=j)))
 | .str x,.str y=>some (.bl (!decide (y<x)))
 | _,_=>none
def ltD:D->D->Option D
 | .int i,.int j=>some (.bl (decide (i<j)))
 | .str x,.str y=>some (.bl (decide (x<y)))
 | _,_=>none
def gtD:D->D->Option D
 | .int i,.int j=>some (.bl (decide (j<i)))
 | _,_=>none
def geD:D->D->Option D
 | .int i,.int j=>some (.bl (decide (j<=i)))
 | _,_=>none
theorem yG:OpR X (compareOp .LtE) (fun x y H Q=>∃ i j:Str,x=.str i/\y=.str j/\Q (.bl (!decide (j.cps.toList<i.cps.toList))) H):=by
 intro pins s σ H x y v u Q I rx ry h
 obtain ⟨i,j,rfl,rfl,q⟩:=h
 obtain ⟨t,rfl⟩:=rx
 obtain ⟨t',rfl⟩:=ry
 exact PySem.P.le_str (BE I q rfl)
theorem wK (K:PySem.W.Frag):ROk K (fun x y H Q=>(rI0 fun i j=>.bl (decide (i<=j))) x y H Q\/∃ i j:Str,x=.str i/\y=.str j/\Q (.bl (!decide (j.cps.toList<i.cps.toList))) H) leD:=by
 intro G H x y dx dy d Q s rx ry e q
 unfold leD at e
 split at e
 ·cases e
  exact .inl ⟨_,_,rx.int_inv,ry.int_inv,q _ G H (.refl s) (.bl _)⟩
 ·cases e
  obtain ⟨i,rfl,ei,hi⟩:=rx.str_inv
  obtain ⟨j,rfl,ej,hj⟩:=ry.str_inv
  subst ei ej
  exact .inr ⟨i,j,rfl,rfl,q _ G H (.refl s) (.bl _)⟩
 ·cases e
theorem Cu (K:PySem.W.Frag):ROk K (fun x y H Q=>(rI0 fun i j=>.bl (decide (i<j))) x y H Q\/∃ i j:Str,x=.str i/\y=.str j/\Q (.bl (decide (i.cps.toList<j.cps.toList))) H) ltD:=by
 intro G H x y dx dy d Q s rx ry e q
 unfold ltD at e
 split at e
 ·cases e
  exact .inl ⟨_,_,rx.int_inv,ry.int_inv,q _ G H (.refl s) (.bl _)⟩
 ·cases e
  obtain ⟨i,rfl,ei,hi⟩:=rx.str_inv
  obtain ⟨j,rfl,ej,hj⟩:=ry.str_inv
  subst ei ej
  exact .inr ⟨i,j,rfl,rfl,q _ G H (.refl s) (.bl _)⟩
 ·cases e
theorem GT (K:PySem.W.Frag):ROk K (rI0 fun i j=>.bl (decide (j<i))) gtD:=by
 intro G H x y dx dy d Q s rx ry e q
 unfold gtD at e
 split at e
 ·cases e
  exact ⟨_,_,rx.int_inv,ry.int_inv,q _ G H (.refl s) (.bl _)⟩
 ·cases e
theorem Ic (K:PySem.W.Frag):ROk K (rI0 fun i j=>.bl (decide (j<=i))) geD:=by
 intro G H x y dx dy d Q s rx ry e q
 unfold geD at e
 split at e
 ·cases e
  exact ⟨_,_,rx.int_inv,ry.int_inv,q _ G H (.refl s) (.bl _)⟩
 ·cases e
theorem oE:OpR X (compareOp .LtE) (fun x y H Q=>(rI0 fun i j=>.bl (decide (i<=j))) x y H Q\/∃ i j:Str,x=.str i/\y=.str j/\Q (.bl (!decide (j.cps.toList<i.cps.toList))) H):=op_le.or yG
theorem xP:OpR X (compareOp .Lt) (fun x y H Q=>(rI0 fun i j=>.bl (decide (i<j))) x y H Q\/∃ i j:Str,x=.str i/\y=.str j/\Q (.bl (decide (i.cps.toList<j.cps.toList))) H):=op_lt.or zc
end
def eqZ (f:D->D->Option Bool):List D->List D->Option (List Bool)
 | x::xs,y::ys=>(f x y).bind fun b=>(eqZ f xs ys).map (b::·)
 | _,_=>some []
noncomputable def eqD:Nat->D->D->Option Bool
 | 0,_,_=>none
 | n+1,a,b=>match a,b with
  | .non,.non=>some true
  | .bl x,.bl y=>some (x==y)
  | .int i,.int j=>some (i==j)
  | .str x,.str y=>some (x==y)
  | .bl x,.int j=>some ((if x then 1 else 0)==j)
  | .int i,.bl y=>some (i==(if y then 1 else 0))
  | .lst _ xs,.lst _ ys=>if xs.length=ys.length then (eqZ (eqD n) xs ys).map fun bs=>bs.all id else some false
  | .tup xs,.tup ys=>(eqZ (eqD n) xs ys).map fun bs=>bs.all id && xs.length==ys.length
  | .exc _,_=>none
  | _,.exc _=>none
  | _,_=>some false
theorem eqZ.get {f:D->D->Option Bool}:∀ {xs ys:List D} {bs:List Bool},eqZ f xs ys=some bs->bs.length=min xs.length ys.length/\∀ (j:Nat) (x y:D),xs[j]?=some x->ys[j]?=some y->∃ b,bs[j]?=some b/\f x y=some b
 | [],_,_,e=>by simp [eqZ] at e;subst e;exact ⟨by simp,fun j x y h=>by simp at h⟩
 | _::_,[],_,e=>by simp [eqZ] at e;subst e;exact ⟨by simp,fun j x y _ h=>by simp at h⟩
 | x::xs,y::ys,bs,e=>by
  unfold eqZ at e
  cases e1:f x y with
  | none=>rw [e1] at e;cases e
  | some b=>
   rw [e1] at e
   cases e2:eqZ f xs ys with
   | none=>rw [e2] at e;cases e
   | some cs=>
    rw [e2] at e
    cases e
    obtain ⟨h1,h2⟩:=eqZ.get e2
    refine ⟨by simp [h1],fun j=>?_⟩
    cases j with
    | zero=>intro x' y' hx hy;simp at hx hy;subst hx hy;exact ⟨b,rfl,e1⟩
    | succ j=>intro x' y' hx hy;exact h2 j x' y' (by simpa using hx) (by simpa using hy)
theorem lg {bs:List Bool} (h:bs.length=n):(List.range n).all (fun j=>bs.getD j true)=bs.all id:=by
 subst h
 rw [Bool.eq_iff_iff,List.all_eq_true,List.all_eq_true]
 constructor
 ·intro h b hb
  obtain ⟨i,hi,rfl⟩:=List.mem_iff_getElem.mp hb
  have:=h i (by simpa using hi)
  simpa [List.getD_eq_getElem?_getD,hi] using this
 ·intro h j hj
  have hj':j<bs.length:=by simpa using hj
  have:=h bs[j] (List.getElem_mem hj')
  simpa [List.getD_eq_getElem?_getD,hj'] using this
theorem dJ:(Value.type "list":Value) ≠ .type "tuple":=by
 intro h
 injection h with h
 exact absurd h (by decide)
section
variable {X:Cx} {pins:List (Addr×Obj)} {σ:St} {G H:Hp} {s:Shared}
open SeqAt
theorem fD (I:Inv X pins σ H s) (sub:Same G H):∀ (n:Nat) (a b:D) (k:Bool) (x:V),eqD n a b=some k->Rep X.K G x a->Rep X.K G x b->k=true:=by
 intro n
 induction n with
 | zero=>intro a b k x e;cases e
 | succ n ih=>
  have sq:∀ (vs:List V) (xs ys:List D),Reps X.K G vs xs->Reps X.K G vs ys->∀ bs,eqZ (eqD n) xs ys=some bs->bs.all id=true:=by
   intro vs
   induction vs with
   | nil=>intro xs ys h1 h2 bs e;cases h1;cases h2;simp [eqZ] at e;subst e;rfl
   | cons v vs ihv=>
    intro xs ys h1 h2 bs e
    cases h1 with
    | cons r1 t1=>
     cases h2 with
     | cons r2 t2=>
      unfold eqZ at e
      rename_i d1 ds1 d2 ds2
      cases e1:eqD n d1 d2 with
      | none=>rw [e1] at e;cases e
      | some b=>
       rw [e1] at e
       cases e2:eqZ (eqD n) ds1 ds2 with
       | none=>rw [e2] at e;cases e
       | some cs=>
        rw [e2] at e
        cases e
        rw [List.all_cons,ih _ _ _ _ e1 r1 r2,ihv _ _ t1 t2 _ e2]
        rfl
  intro a b k x e ra rb
  cases ra with
  | non=>cases rb;simp [eqD] at e;exact e
  | bl y=>cases rb;simp [eqD] at e;exact e
  | int i=>cases rb;simp [eqD] at e;exact e
  | str y h=>
   cases rb with
   | str z h'=>simp [eqD] at e;exact e
  | tup h r=>
   cases rb with
   | tup h' r'=>
    have q:=I.tuple_inj (h.mono sub) (h'.mono sub)
    subst q
    simp only [eqD] at e
    rename_i ds es
    cases e2:eqZ (eqD n) ds es with
    | none=>rw [e2] at e;cases e
    | some cs=>
     rw [e2] at e
     have this:(cs.all id && ds.length==es.length)=k:=Option.some.inj e
     rw [sq _ _ _ r r' _ e2,Bool.true_and] at this
     rw [<- this,<- r.length,<- r'.length]
     simp
   | lst h' r'=>
    obtain ⟨its,_,⟨o,e1,c1,_⟩,_⟩:=I.tuple (h.mono sub)
    obtain ⟨_,its',n',_,e2⟩:=I.hok _ _ (sub _ _ h')
    rw [e1] at e2;cases e2;exact absurd c1 dJ
   | fls h' r'=>
    obtain ⟨its,_,⟨o,e1,c1,_⟩,_⟩:=I.tuple (h.mono sub)
    obtain ⟨its',_,⟨o',n',e2,c2,_⟩,_⟩:=I.list (h'.mono sub)
    rw [e1] at e2;cases e2;rw [c1] at c2;exact absurd c2.symm dJ
   | exc h'=>simp [eqD] at e
  | lst h r=>
   have hl:SqL X.K G _ _:=SqL.of h
   cases rb with
   | tup h' r'=>
    obtain ⟨its,_,⟨o,e1,c1,_⟩,_⟩:=I.tuple (h'.mono sub)
    obtain ⟨_,its',n',_,e2⟩:=I.hok _ _ (sub _ _ h)
    rw [e1] at e2;cases e2;exact absurd c1 dJ
   | lst h' r'=>
    rw [h] at h';cases h'
    simp only [eqD] at e
    rw [if_pos (by rw [<- r.length,<- r'.length])] at e
    rename_i ds es
    cases e2:eqZ (eqD n) ds es with
    | none=>rw [e2] at e;cases e
    | some cs=>rw [e2] at e;have:=Option.some.inj e;rw [<- this];exact sq _ _ _ r r' _ e2
   | fls h' r'=>
    have q:=I.list_inj (hl.mono sub) (h'.mono sub)
    subst q
    simp only [eqD] at e
    rw [if_pos (by rw [<- r.length,<- r'.length])] at e
    rename_i ds es
    cases e2:eqZ (eqD n) ds es with
    | none=>rw [e2] at e;cases e
    | some cs=>rw [e2] at e;have:=Option.some.inj e;rw [<- this];exact sq _ _ _ r r' _ e2
   | exc h'=>simp [eqD] at e
  | fls h r=>
   cases rb with
   | tup h' r'=>
    obtain ⟨its,_,⟨o,e1,c1,_⟩,_⟩:=I.tuple (h'.mono sub)
    obtain ⟨its',_,⟨o',n',e2,c2,_⟩,_⟩:=I.list (h.mono sub)
    rw [e1] at e2;cases e2;rw [c1] at c2;exact absurd c2.symm dJ
   | lst h' r'=>
    have q:=I.list_inj (h.mono sub) ((SqL.of h':SqL X.K G _ _).mono sub)
    subst q
    simp only [eqD] at e
    rw [if_pos (by rw [<- r.length,<- r'.length])] at e
    rename_i ds es
    cases e2:eqZ (eqD n) ds es with
    | none=>rw [e2] at e;cases e
    | some cs=>rw [e2] at e;have:=Option.some.inj e;rw [<- this];exact sq _ _ _ r r' _ e2
   | fls h' r'=>
    have q:=I.list_inj (h.mono sub) (h'.mono sub)
    subst q
    simp only [eqD] at e
    rw [if_pos (by rw [<- r.length,<- r'.length])] at e
    rename_i ds es
    cases e2:eqZ (eqD n) ds es with
    | none=>rw [e2] at e;cases e
    | some cs=>rw [e2] at e;have:=Option.some.inj e;rw [<- this];exact sq _ _ _ r r' _ e2
   | exc h'=>simp [eqD] at e
  | exc h=>simp [eqD] at e
structure Eqs (A:Around) (s:Shared) (v u:Value) (k:Bool):Prop where
 eq:EqAt A s v u k
 rc:RcAt A s v u k
 ne:RcNeAt A s v u (!k)
theorem ir {f:Bool} {x:V} (I:Inv X pins σ H s) (sub:Same G H) (r:Rep X.K G x (.lst f ds)) (ru:RelV x u):∃ a its vs,u=.ref a/\s.heap.IsList a (List.toArray its)/\Vals vs its/\Reps X.K G vs ds:=by
 obtain ⟨a,vs,rfl,h,t⟩:=r.seq_inv
 cases ru
 obtain ⟨its,rv,⟨o,n,e1,c1,_,d1⟩,_⟩:=I.list (h.mono sub)
 exact ⟨a,its,vs,rfl,⟨o,e1,c1,n,d1⟩,rv,t⟩
theorem lW {x:V} (I:Inv X pins σ H s) (sub:Same G H) (r:Rep X.K G x (.tup ds)) (ru:RelV x u):∃ a its vs,u=.ref a/\s.heap.IsTuple a (List.toArray its)/\Vals vs its/\Reps X.K G vs ds:=by
 obtain ⟨a,vs,rfl,h,t⟩:=r.tup_inv
 cases ru
 obtain ⟨its,rv,p,_⟩:=I.tuple (h.mono sub)
 exact ⟨a,its,vs,rfl,p,rv,t⟩
theorem xA (I:Inv X pins σ H s) (sub:Same G H):∀ (n:Nat) (A:Around) (a b:D) (k:Bool) (x y:V) (v u:Value),A.units+n<cLine->eqD n a b=some k->Rep X.K G x a->Rep X.K G y b->RelV x v->RelV y u->Eqs A s v u k:=by
 intro n
 induction n with
 | zero=>intro A a b k x y v u _ e;cases e
 | succ n ih=>
  have sq:∀ (A:Around) (vs ws:List V) (xs ys:List D) (is js:List Value) (bs:List Bool),A.units+(n+1)<cLine->Reps X.K G vs xs->Reps X.K G ws ys->Vals vs is->Vals ws js->eqZ (eqD n) xs ys=some bs->
    bs.length=min is.length js.length/\∀ j (h1:j<is.toArray.size) (h2:j<js.toArray.size),EqAt A.in1 s is.toArray[j] js.toArray[j] (bs.getD j true):=by
   intro A vs ws xs ys is js bs hA r1 r2 v1 v2 e
   obtain ⟨h1,h2⟩:=eqZ.get e
   refine ⟨by rw [h1,<- r1.length,<- r2.length,v1.length,v2.length],fun j q1 q2=>?_⟩
   rw [List.size_toArray] at q1 q2
   have p1:j<xs.length:=by rw [<- r1.length,v1.length];exact q1
   have p2:j<ys.length:=by rw [<- r2.length,v2.length];exact q2
   obtain ⟨b,e1,e2⟩:=h2 j xs[j] ys[j] (by simp [p1]) (by simp [p2])
   obtain ⟨x',ex,rx⟩:=r1.get (i:=j) (d:=xs[j]) (by simp [p1])
   obtain ⟨y',ey,ry⟩:=r2.get (i:=j) (d:=ys[j]) (by simp [p2])
   obtain ⟨u1,eu1,ru1⟩:=v1.get ex
   obtain ⟨u2,eu2,ru2⟩:=v2.get ey
   have g1:is.toArray[j]=u1:=by simpa [q1] using eu1
   have g2:js.toArray[j]=u2:=by simpa [q2] using eu2
   rw [List.getD_eq_getElem?_getD,e1]
   simp only [List.getElem_toArray] at g1 g2 ⊢
   rw [g1,g2]
   exact (ih A.in1 _ _ b x' y' u1 u2 (by show A.units+1+n<cLine;omega) e2 rx ry ru1 ru2).eq
  intro A a b k x y v u hA e ra rb rv ru
  have hu:A.units<cLine:=by omega
  have same:∀ c d:Addr,v=.ref c->u=.ref d->c=d->k=true:=fun c d h1 h2 h3=>by
   subst h1 h2 h3
   cases ra with
   | tup h r=>cases rv;cases rb with
    | tup h' r'=>cases ru;exact fD I sub (n+1) _ _ k _ e (.tup h r) (.tup h' r')
    | lst h' r'=>cases ru;exact fD I sub (n+1) _ _ k _ e (.tup h r) (.lst h' r')
    | fls h' r'=>cases ru;exact fD I sub (n+1) _ _ k _ e (.tup h r) (.fls h' r')
    | exc h'=>simp [eqD] at e
    | str _ _=>obtain ⟨t,z⟩:=ru;cases z
    | int _=>obtain ⟨t,z⟩:=ru;cases z
    | non=>cases ru
    | bl _=>cases ru
   | lst h r=>cases rv;cases rb with
    | tup h' r'=>cases ru;exact fD I sub (n+1) _ _ k _ e (.lst h r) (.tup h' r')
    | lst h' r'=>cases ru;exact fD I sub (n+1) _ _ k _ e (.lst h r) (.lst h' r')
    | fls h' r'=>cases ru;exact fD I sub (n+1) _ _ k _ e (.lst h r) (.fls h' r')
    | exc h'=>simp [eqD] at e
    | str _ _=>obtain ⟨t,z⟩:=ru;cases z
    | int _=>obtain ⟨t,z⟩:=ru;cases z
    | non=>cases ru
    | bl _=>cases ru
   | fls h r=>cases rv;cases rb with
    | tup h' r'=>cases ru;exact fD I sub (n+1) _ _ k _ e (.fls h r) (.tup h' r')
    | lst h' r'=>cases ru;exact fD I sub (n+1) _ _ k _ e (.fls h r) (.lst h' r')
    | fls h' r'=>cases ru;exact fD I sub (n+1) _ _ k _ e (.fls h r) (.fls h' r')
    | exc h'=>simp [eqD] at e
    | str _ _=>obtain ⟨t,z⟩:=ru;cases z
    | int _=>obtain ⟨t,z⟩:=ru;cases z
    | non=>cases ru
    | bl _=>cases ru
   | exc h=>simp [eqD] at e
   | str _ _=>obtain ⟨t,z⟩:=rv;cases z
   | int _=>obtain ⟨t,z⟩:=rv;cases z
   | non=>cases rv
   | bl _=>cases rv
  have refs:∀ c d:Addr,v=.ref c->u=.ref d->RcAt A s v u k->EqAt A s v u k:=fun c d h1 h2 h=>by
   subst h1 h2
   by_cases h3:c=d
   ·have:=same c d rfl rfl h3
    subst h3 this
    exact EqAt.same _
   ·exact EqAt.of_refs h3 h
  cases a with
  | exc C=>simp [eqD] at e
  | non=>
   obtain rfl:=ra.non_inv
   cases rv
   cases b with
   | exc C=>simp [eqD] at e
   | non=>obtain rfl:=rb.non_inv;cases ru;simp [eqD] at e;subst e;exact ⟨EqAt.same _,RcAt.none_none,RcNeAt.none_none⟩
   | bl z=>obtain rfl:=rb.bl_inv;cases ru;simp [eqD] at e;subst e;exact ⟨EqAt.none_bool _,RcAt.none_bool _,RcNeAt.none_bool _⟩
   | int z=>obtain rfl:=rb.int_inv;obtain ⟨t,rfl⟩:=ru;simp [eqD] at e;subst e;exact ⟨EqAt.none_int _ _,RcAt.none_int _ _,RcNeAt.none_int _ _⟩
   | str z=>obtain ⟨z,rfl,-,-⟩:=rb.str_inv;obtain ⟨t,rfl⟩:=ru;simp [eqD] at e;subst e;exact ⟨EqAt.none_str _ _,RcAt.none_str _ _,RcNeAt.none_str _ _⟩
   | tup ds=>obtain ⟨c,its,vs,rfl,p,_,_⟩:=lW I sub rb ru;simp [eqD] at e;subst e;exact ⟨EqAt.none_tuple p hu,RcAt.none_tuple p hu,RcNeAt.none_tuple p hu⟩
   | lst f ds=>obtain ⟨c,its,vs,rfl,p,_,_⟩:=ir I sub rb ru;simp [eqD] at e;subst e;exact ⟨EqAt.none_list p hu,RcAt.none_list p hu,RcNeAt.none_list p hu⟩
  | bl w=>
   obtain rfl:=ra.bl_inv
   cases rv
   cases b with
   | exc C=>simp [eqD] at e
   | non=>obtain rfl:=rb.non_inv;cases ru;simp [eqD] at e;subst e;exact ⟨EqAt.bool_none _,RcAt.bool_none _,RcNeAt.bool_none _⟩
   | bl z=>obtain rfl:=rb.bl_inv;cases ru;simp only [eqD] at e;cases e;exact ⟨EqAt.bool_bool _ _,RcAt.bool_bool _ _,RcNeAt.bool_bool _ _⟩
   | int z=>obtain rfl:=rb.int_inv;obtain ⟨t,rfl⟩:=ru;simp only [eqD] at e;cases e;exact ⟨EqAt.bool_int _ _ _,RcAt.bool_int _ _ _,RcNeAt.bool_int _ _ _⟩
   | str z=>obtain ⟨z,rfl,-,-⟩:=rb.str_inv;obtain ⟨t,rfl⟩:=ru;simp [eqD] at e;subst e;exact ⟨EqAt.bool_str _ _ _,RcAt.bool_str _ _ _,RcNeAt.bool_str _ _ _⟩
   | tup ds=>obtain ⟨c,its,vs,rfl,p,_,_⟩:=lW I sub rb ru;simp [eqD] at e;subst e;exact ⟨EqAt.bool_tuple _ p hu,RcAt.bool_tuple _ p hu,RcNeAt.bool_tuple _ p hu⟩
   | lst f ds=>obtain ⟨c,its,vs,rfl,p,_,_⟩:=ir I sub rb ru;simp [eqD] at e;subst e;exact ⟨EqAt.bool_list _ p hu,RcAt.bool_list _ p hu,RcNeAt.bool_list _ p hu⟩
  | int w=>
   obtain rfl:=ra.int_inv
   obtain ⟨t0,rfl⟩:=rv
   cases b with
   | exc C=>simp [eqD] at e
   | non=>obtain rfl:=rb.non_inv;cases ru;simp [eqD] at e;subst e;exact ⟨EqAt.int_none _ _,RcAt.int_none _ _,RcNeAt.int_none _ _⟩
   | bl z=>obtain rfl:=rb.bl_inv;cases ru;simp only [eqD] at e;cases e;exact ⟨EqAt.int_bool _ _ _,RcAt.int_bool _ _ _,RcNeAt.int_bool _ _ _⟩
   | int z=>obtain rfl:=rb.int_inv;obtain ⟨t,rfl⟩:=ru;simp only [eqD] at e;cases e;exact ⟨EqAt.int_int _ _ _ _,RcAt.int_int _ _ _ _,RcNeAt.int_int _ _ _ _⟩
   | str z=>obtain ⟨z,rfl,-,-⟩:=rb.str_inv;obtain ⟨t,rfl⟩:=ru;simp [eqD] at e;subst e;exact ⟨EqAt.int_str _ _ _ _,RcAt.int_str _ _ _ _,RcNeAt.int_str _ _ _ _⟩
   | tup ds=>obtain ⟨c,its,vs,rfl,p,_,_⟩:=lW I sub rb ru;simp [eqD] at e;subst e;exact ⟨EqAt.int_tuple _ _ p hu,RcAt.int_tuple _ _ p hu,RcNeAt.int_tuple _ _ p hu⟩
   | lst f ds=>obtain ⟨c,its,vs,rfl,p,_,_⟩:=ir I sub rb ru;simp [eqD] at e;subst e;exact ⟨EqAt.int_list _ _ p hu,RcAt.int_list _ _ p hu,RcNeAt.int_list _ _ p hu⟩
  | str w=>
   obtain ⟨w,rfl,ew,-⟩:=ra.str_inv
   obtain ⟨t0,rfl⟩:=rv
   cases b with
   | exc C=>simp [eqD] at e
   | non=>obtain rfl:=rb.non_inv;cases ru;simp [eqD] at e;subst e;exact ⟨EqAt.str_none _ _,RcAt.str_none _ _,RcNeAt.str_none _ _⟩
   | bl z=>obtain rfl:=rb.bl_inv;cases ru;simp [eqD] at e;subst e;exact ⟨EqAt.str_bool _ _ _,RcAt.str_bool _ _ _,RcNeAt.str_bool _ _ _⟩
   | int z=>obtain rfl:=rb.int_inv;obtain ⟨t,rfl⟩:=ru;simp [eqD] at e;subst e;exact ⟨EqAt.str_int _ _ _ _,RcAt.str_int _ _ _ _,RcNeAt.str_int _ _ _ _⟩
   | str z=>
    obtain ⟨z,rfl,ez,-⟩:=rb.str_inv;obtain ⟨t,rfl⟩:=ru
    simp only [eqD] at e
    subst ew ez
    rw [str_beq] at e
    cases e
    exact ⟨EqAt.str_str _ _ _ _,RcAt.str_str _ _ _ _,RcNeAt.str_str _ _ _ _⟩
   | tup ds=>obtain ⟨c,its,vs,rfl,p,_,_⟩:=lW I sub rb ru;simp [eqD] at e;subst e;exact ⟨EqAt.str_tuple _ _ p hu,RcAt.str_tuple _ _ p hu,RcNeAt.str_tuple _ _ p hu⟩
   | lst f ds=>obtain ⟨c,its,vs,rfl,p,_,_⟩:=ir I sub rb ru;simp [eqD] at e;subst e;exact ⟨EqAt.str_list _ _ p hu,RcAt.str_list _ _ p hu,RcNeAt.str_list _ _ p hu⟩
  | tup ds1=>
   obtain ⟨c1,its1,vs1,rfl,p1,w1,q1⟩:=lW I sub ra rv
   cases b with
   | exc C=>simp [eqD] at e
   | non=>obtain rfl:=rb.non_inv;cases ru;simp [eqD] at e;subst e;exact ⟨EqAt.tuple_none p1 hu,RcAt.tuple_none p1 hu,RcNeAt.tuple_none p1 hu⟩
   | bl z=>obtain rfl:=rb.bl_inv;cases ru;simp [eqD] at e;subst e;exact ⟨EqAt.tuple_bool _ p1 hu,RcAt.tuple_bool _ p1 hu,RcNeAt.tuple_bool _ p1 hu⟩
   | int z=>obtain rfl:=rb.int_inv;obtain ⟨t,rfl⟩:=ru;simp [eqD] at e;subst e;exact ⟨EqAt.tuple_int _ _ p1 hu,RcAt.tuple_int _ _ p1 hu,RcNeAt.tuple_int _ _ p1 hu⟩
   | str z=>obtain ⟨z,rfl,-,-⟩:=rb.str_inv;obtain ⟨t,rfl⟩:=ru;simp [eqD] at e;subst e;exact ⟨EqAt.tuple_str _ _ p1 hu,RcAt.tuple_str _ _ p1 hu,RcNeAt.tuple_str _ _ p1 hu⟩
   | lst f ds=>obtain ⟨c,its,vs,rfl,p,_,_⟩:=ir I sub rb ru;simp [eqD] at e;subst e;exact ⟨EqAt.tuple_list p1 p hu,RcAt.tuple_list p1 p hu,RcNeAt.tuple_list p1 p hu⟩
   | tup ds2=>
    obtain ⟨c2,its2,vs2,rfl,p2,w2,q2⟩:=lW I sub rb ru
    simp only [eqD] at e
    cases e2:eqZ (eqD n) ds1 ds2 with
    | none=>rw [e2] at e;cases e
    | some bs=>
     rw [e2] at e
     have ek:=Option.some.inj e
     obtain ⟨hl,he⟩:=sq A _ _ _ _ _ _ bs hA q1 q2 w1 w2 e2
     have e3:((List.range (min its1.toArray.size its2.toArray.size)).all (fun j=>bs.getD j true) && its1.toArray.size==its2.toArray.size)=k:=by
      rw [<- ek,List.size_toArray,List.size_toArray,lg hl,<- w1.length,<- w2.length,q1.length,q2.length]
     have hrc:RcAt A s (.ref c1) (.ref c2) k:=by rw [<- e3];exact RcAt.tuples p1 p2 hu he
     have hne:RcNeAt A s (.ref c1) (.ref c2) (!k):=by rw [<- e3];exact RcNeAt.tuples p1 p2 hu he
     exact ⟨refs _ _ rfl rfl hrc,hrc,hne⟩
  | lst f1 ds1=>
   obtain ⟨c1,its1,vs1,rfl,p1,w1,q1⟩:=ir I sub ra rv
   cases b with
   | exc C=>simp [eqD] at e
   | non=>obtain rfl:=rb.non_inv;cases ru;simp [eqD] at e;subst e;exact ⟨EqAt.list_none p1 hu,RcAt.list_none p1 hu,RcNeAt.list_none p1 hu⟩
   | bl z=>obtain rfl:=rb.bl_inv;cases ru;simp [eqD] at e;subst e;exact ⟨EqAt.list_bool _ p1 hu,RcAt.list_bool _ p1 hu,RcNeAt.list_bool _ p1 hu⟩
   | int z=>obtain rfl:=rb.int_inv;obtain ⟨t,rfl⟩:=ru;simp [eqD] at e;subst e;exact ⟨EqAt.list_int _ _ p1 hu,RcAt.list_int _ _ p1 hu,RcNeAt.list_int _ _ p1 hu⟩
   | str z=>obtain ⟨z,rfl,-,-⟩:=rb.str_inv;obtain ⟨t,rfl⟩:=ru;simp [eqD] at e;subst e;exact ⟨EqAt.list_str _ _ p1 hu,RcAt.list_str _ _ p1 hu,RcNeAt.list_str _ _ p1 hu⟩
   | tup ds=>obtain ⟨c,its,vs,rfl,p,_,_⟩:=lW I sub rb ru;simp [eqD] at e;subst e;exact ⟨EqAt.list_tuple p1 p hu,RcAt.list_tuple p1 p hu,RcNeAt.list_tuple p1 p hu⟩
   | lst f2 ds2=>
    obtain ⟨c2,its2,vs2,rfl,p2,w2,q2⟩:=ir I sub rb ru
    simp only [eqD] at e
    by_cases hlen:ds1.length=ds2.length
    ·rw [if_pos hlen] at e
     cases e2:eqZ (eqD n) ds1 ds2 with
     | none=>rw [e2] at e;cases e
     | some bs=>
      rw [e2] at e
      have ek:=Option.some.inj e
      obtain ⟨hl,he⟩:=sq A _ _ _ _ _ _ bs hA q1 q2 w1 w2 e2
      have hz:its1.toArray.size=its2.toArray.size:=by rw [List.size_toArray,List.size_toArray,<- w1.length,<- w2.length,q1.length,q2.length];exact hlen
      have e3:(List.range its1.toArray.size).all (fun j=>bs.getD j true)=k:=by
       rw [<- ek,lg]
       rw [hl,List.size_toArray]
       simp only [List.size_toArray] at hz
       omega
      have hrc:RcAt A s (.ref c1) (.ref c2) k:=by rw [<- e3];exact RcAt.lists p1 p2 hz hu he
      have hne:RcNeAt A s (.ref c1) (.ref c2) (!k):=by rw [<- e3];exact RcNeAt.lists p1 p2 hz hu he
      exact ⟨refs _ _ rfl rfl hrc,hrc,hne⟩
    ·rw [if_neg hlen] at e
     cases e
     have hz:(its1.toArray.size != its2.toArray.size)=true:=by
      rw [List.size_toArray,List.size_toArray,<- w1.length,<- w2.length,q1.length,q2.length]
      simpa using hlen
     have hrc:RcAt A s (.ref c1) (.ref c2) false:=RcAt.lists_lengths p1 p2 hz hu
     exact ⟨refs _ _ rfl rfl hrc,hrc,RcNeAt.lists_lengths p1 p2 hz hu⟩
end
section
variable {X:Cx} {a b:Expr} {ga gb:Ev->R D} {pos:Pos}
def eqF (x y:D):Option D:=(eqD 40 x y).map .bl
def neF (x y:D):Option D:=(eqD 40 x y).map fun k=>.bl (!k)
def GH (K:PySem.W.Frag) (neg:Bool):R2:=fun x y H Q=>∃ G dx dy k,Same G H/\Rep K G x dx/\Rep K G y dy/\eqD 40 dx dy=some k/\Q (.bl (if neg then !k else k)) H
theorem Bq (hu:X.A.units+64<cLine):OpR X (compareOp .Eq) (GH X.K false):=by
 intro pins s σ H x y v u Q I rx ry h
 obtain ⟨G,dx,dy,k,sub,r1,r2,e,q⟩:=h
 exact (xA I sub 40 X.A dx dy k x y v u (by omega) e r1 r2 rx ry).rc _ _ _ _ ⟨.bl k,H,I,rfl,q⟩
theorem yR (hu:X.A.units+64<cLine):OpR X (compareOp .NotEq) (GH X.K true):=by
 intro pins s σ H x y v u Q I rx ry h
 obtain ⟨G,dx,dy,k,sub,r1,r2,e,q⟩:=h
 exact (xA I sub 40 X.A dx dy k x y v u (by omega) e r1 r2 rx ry).ne _ _ _ _ ⟨.bl (!k),H,I,rfl,q⟩
end
end L2
namespace L2
open PySem PySem.Spec PyProof.Rows
section
variable {X:Cx} {a b c e:Expr} {es cV:List Expr} {ga gb gc:Ev->R D} {gt gu:Ev->R Bool} {gl:Ev->R (List D)} {pos:Pos}
def asB:D->R Bool
 | .bl k=>.ok k
 | _=>.no
def ql (ga gb:Ev->R D):Ev->R D:=fun Z=>ga Z>>=fun x=>asB x>>=fun k=>if k=true then gb Z else .ok (.bl false)
def gOr (ga gb:Ev->R D):Ev->R D:=fun Z=>ga Z>>=fun x=>asB x>>=fun k=>if k=true then .ok (.bl true) else gb Z
def HI (ga:Ev->R D):Ev->R D:=fun Z=>ga Z>>=fun x=>asB x>>=fun k=>.ok (.bl (!k))
theorem asB.ok {β:Type} {K:PySem.W.Frag} {k:Bool->R β} {P:β->Prop} {E:Addr->Prop} (r:Rep K G v d) (h:(asB d>>=k).post P E):∃ c,v=.bl c/\d=.bl c/\(k c).post P E:=by
 cases r with
 | bl c=>exact ⟨c,rfl,rfl,h⟩
 | _=>exact h.elim
def uZ:D->R D
 | .int i=>.ok (.int (-i))
 | _=>.no
theorem Ac (ha:QF X a ga):QF X (.UnaryOp .USub a pos) (fun Z=>ga Z>>=uZ):=by
 intro pins s σ H Q I h
 refine HH F2 ha pins s σ H Q I ?_
 obtain ⟨G,Z,st,h⟩:=h
 refine tG.intro st h fun x v G1 H1 u1 st1 r1 h1=>?_
 cases r1 with
 | int i=>exact ⟨i,rfl,h1 _ G1 H1 (.refl st1.sub) (.int _)⟩
 | _=>exact h1.elim
def nI:D->R Bool
 | .non=>.ok false
 | .bl k=>.ok k
 | .int i=>.ok (i != 0)
 | .str x=>.ok (!x.isEmpty)
 | .tup xs=>.ok (!xs.isEmpty)
 | .lst _ xs=>.ok (!xs.isEmpty)
 | .exc _=>.no
theorem Reps.isEmpty {K:PySem.W.Frag} (r:Reps K G vs ds):vs.isEmpty=ds.isEmpty:=by cases r <;> rfl
theorem uR (h:QF X e ga) (he:∀ whole,isTrue e X.env whole=(do let v <- whole;standAt e.pos;holding [v] (truthy v)):=by intro _;rfl):QB X e (fun Z=>ga Z>>=nI):=by
 intro pins s σ H Q I hq
 refine Aa h he pins s σ H Q I ?_
 obtain ⟨G,Z,st,hq⟩:=hq
 refine tG.intro st hq fun x v G1 H1 u1 st1 r1 h1=>?_
 have fin:∀ k,nI x=.ok k->Q k H1:=fun k ek=>by rw [ek] at h1;exact h1 k G1 H1 (.refl st1.sub) rfl
 cases r1 with
 | non=>exact ⟨_,rfl,fin _ rfl⟩
 | bl k=>exact ⟨_,rfl,fin _ rfl⟩
 | int i=>exact ⟨_,rfl,fin _ rfl⟩
 | str y hy=>
  refine ⟨_,⟨hy,rfl⟩,fin _ ?_⟩
  show R.ok _=R.ok _
  congr 1
  have:y.cps.toList.length=y.length:=Str.len_list y
  cases h:y.cps.toList with
  | nil=>rw [h] at this;rw [<- this];rfl
  | cons c cs=>rw [h] at this;rw [<- this];simp;omega
 | tup h r=>exact ⟨_,.inr (.inl ⟨_,h.mono st1.sub,rfl⟩),fin _ (by show R.ok _=R.ok _;rw [r.isEmpty])⟩
 | lst h r=>exact ⟨_,.inl ⟨_,.of (st1.sub _ _ h),rfl⟩,fin _ (by show R.ok _=R.ok _;rw [r.isEmpty])⟩
 | fls h r=>exact ⟨_,.inl ⟨_,h.mono st1.sub,rfl⟩,fin _ (by show R.ok _=R.ok _;rw [r.isEmpty])⟩
 | exc h=>exact h1.elim
theorem jC {op:CmpOp} {r:R2} {f:D->D->Option D} (ho:OpR X (compareOp op) r) (hf:ROk X.K r f) (ha:QF X a ga) (hb:QF X b gb) (hm:behindInMarks op b=false):QB X (.Compare a [op] [b] pos) (fun Z=>g2 f ga gb Z>>=asB):=by
 intro pins s σ H Q I h
 refine xO ho ha hb hm pins s σ H Q I ?_
 obtain ⟨G,Z,st,h⟩:=h
 refine Ag hf ?_
 refine tG.intro st h fun x v G1 H1 u1 st1 r1 h1=>?_
 cases r1 with
 | bl k=>exact ⟨k,rfl,h1 k G1 H1 (.refl st1.sub) rfl⟩
 | _=>exact h1.elim
theorem Cj (ha:QF X a ga) (hb:QF X b gb):QB X (.Compare a [.Lt] [b] pos) (fun Z=>g2 ltD ga gb Z>>=asB):=jC xP (Cu _) ha hb (ic _)
theorem Ds (ha:QF X a ga) (hb:QF X b gb):QB X (.Compare a [.Gt] [b] pos) (fun Z=>g2 gtD ga gb Z>>=asB):=jC Ia (GT _) ha hb (ic _)
theorem xJ (K:PySem.W.Frag) (neg:Bool):ROk K (GH K neg) (fun x y=>(eqD 40 x y).map fun k=>.bl (if neg then !k else k)):=by
 intro G H x y dx dy d Q s rx ry e q
 dsimp only at e
 cases e1:eqD 40 dx dy with
 | none=>rw [e1] at e;cases e
 | some k=>rw [e1] at e;cases e;exact ⟨G,dx,dy,k,s,rx,ry,e1,q _ G H (.refl s) (.bl _)⟩
theorem CQ (hu:X.A.units+64<cLine) (ha:QF X a ga) (hb:QF X b gb):QB X (.Compare a [.Eq] [b] pos) (fun Z=>g2 eqF ga gb Z>>=asB):=jC (Bq hu) (xJ _ false) ha hb (ic _)
theorem B5 (hu:X.A.units+64<cLine) (ha:QF X a ga) (hb:QF X b gb):QB X (.Compare a [.NotEq] [b] pos) (fun Z=>g2 neF ga gb Z>>=asB):=jC (yR hu) (xJ _ true) ha hb (ic _)
theorem oC {op op':CmpOp} {r r':R2} {f f':D->D->Option D} (ho:OpR X (compareOp op) r) (ho':OpR X (compareOp op') r') (hf:ROk X.K r f) (hf':ROk X.K r' f') (ha:QF X a ga) (hb:QF X b gb) (hc:QF X c gc)
 (hm:lastMarks [op,op'] [b,c]=false:=by with_unfolding_all rfl):QB X (.Compare a [op,op'] [b,c] pos) (fun Z=>g3 f f' ga gb gc Z>>=asB):=by
 intro pins s σ H Q I h
 refine AB ho ho' ha hb hc hm pins s σ H Q I ?_
 obtain ⟨G,Z,st,h⟩:=h
 have h':(ga Z>>=fun x=>gb Z>>=fun y=>ofO (f x y)>>=fun z=>(match z with|.bl true=>gc Z>>=fun w=>ofO (f' y w)|.bl false=>.ok (.bl false)|_=>.no)>>=asB).post (Fin G H (fun _ b c=>b=c) Q) (Exx X σ G H):=by
  have e:(g3 f f' ga gb gc Z>>=asB)=(ga Z>>=fun x=>gb Z>>=fun y=>ofO (f x y)>>=fun z=>(match z with|.bl true=>gc Z>>=fun w=>ofO (f' y w)|.bl false=>.ok (.bl false)|_=>.no)>>=asB):=by
   unfold g3
   cases ga Z with
   | ok x=>cases gb Z with
    | ok y=>simp only [R.ok_bind];cases ofO (f x y) <;> rfl
    | _=>rfl
   | _=>rfl
  rw [<- e];exact h
 refine tG.intro st h' fun x v G1 H1 u1 st1 r1 h1=>?_
 refine tG.intro st1 h1 fun y w G2 H2 u2 st2 r2 h2=>?_
 cases e:f x y with
 | none=>rw [e] at h2;exact h2.elim
 | some d=>
  rw [e] at h2
  refine hf G2 H2 v w x y d _ st2.sub (r1.mono u2.gg) r2 e fun z G3 H3 u3 r3=>?_
  have h3:=oQ u3 h2
  have st3:=st2.up u3
  cases r3 with
  | bl k=>
   refine ⟨k,rfl,?_⟩
   cases k with
   | false=>rw [if_neg Bool.false_ne_true];exact ⟨false,rfl,h3 _ G3 H3 (.refl st3.sub) rfl⟩
   | true=>
    rw [if_pos rfl]
    have h3':(gc Z>>=fun w=>ofO (f' y w)>>=asB).post (Fin G3 H3 (fun _ b c=>b=c) Q) (Exx X σ G3 H3):=by
     have e:((gc Z>>=fun w=>ofO (f' y w))>>=asB)=(gc Z>>=fun w=>ofO (f' y w)>>=asB):=by cases gc Z <;> rfl
     rw [<- e];exact h3
    refine tG.intro st3 h3' fun q vq G4 H4 u4 st4 r4 h4=>?_
    cases e':f' y q with
    | none=>rw [e'] at h4;exact h4.elim
    | some d'=>
     rw [e'] at h4
     refine hf' G4 H4 w vq y q d' _ st4.sub ((r2.mono u3.gg).mono u4.gg) r4 e' fun z' G5 H5 u5 r5=>?_
     have h5:=oQ u5 h4
     cases r5 with
     | bl k'=>exact ⟨k',rfl,h5 k' G5 H5 (.refl u5.sub) rfl⟩
     | _=>exact h5.elim
  | _=>exact h3.elim
theorem zo (ha:QF X a ga) (hb:QF X b gb) (hc:QF X c gc) (hm:lastMarks [.LtE,.LtE] [b,c]=false:=by with_unfolding_all rfl):QB X (.Compare a [.LtE,.LtE] [b,c] pos) (fun Z=>g3 leD leD ga gb gc Z>>=asB):=oC oE oE (wK _) (wK _) ha hb hc hm
def H8 (t u:Ev->R Bool):Ev->R Bool:=fun Z=>t Z>>=fun k=>if k=true then u Z else .ok false
def su (t u:Ev->R Bool):Ev->R Bool:=fun Z=>t Z>>=fun k=>if k=true then .ok true else u Z
theorem Am (ha:QB X a gt):QB X (.UnaryOp .Not a pos) (fun Z=>gt Z>>=fun k=>.ok (!k)):=by
 intro pins s σ H Q I h
 refine EL ha pins s σ H Q I ?_
 obtain ⟨G,Z,st,h⟩:=h
 refine tG.intro st h fun x v G1 H1 u1 st1 r1 h1=>?_
 subst r1
 exact h1 _ G1 H1 (.refl st1.sub) rfl
def gIf (gt:Ev->R Bool) (ga gb:Ev->R D):Ev->R D:=fun Z=>gt Z>>=fun k=>if k=true then ga Z else gb Z
theorem qI:QFA X [] (fun _=>.ok []):=by
 intro pos pins s σ H Q I h
 obtain ⟨G,Z,st,h⟩:=h
 exact fE pos pins s σ H Q I (h [] G H (.refl st.sub) .nil)
theorem wP (ha:QF X e ga) (hr:QFA X es gl) (hs:starEach (e::es) X.env=(false,eval e X.env)::starEach es X.env:=by rfl):QFA X (e::es) (fun Z=>ga Z>>=fun x=>gl Z>>=fun xs=>.ok (x::xs)):=by
 intro pos pins s σ H Q I h
 refine bQ ha hr hs pos pins s σ H Q I ?_
 obtain ⟨G,Z,st,h⟩:=h
 refine tG.intro st h fun x v G1 H1 u1 st1 r1 h1=>?_
 refine tG.intro st1 h1 fun y w G2 H2 u2 st2 r2 h2=>?_
 exact h2 _ G2 H2 (.refl st2.sub) (.cons (r1.mono u2.gg) r2)
def mkT (ds:List D):R D:=if ds.length<=sizeLine then .ok (.tup ds) else .no
theorem AX (h:QFA X es gl):QF X (.Tuple es k pos) (fun Z=>gl Z>>=mkT):=by
 intro pins s σ H Q I hq
 refine uV h pins s σ H Q I ?_
 obtain ⟨G,Z,st,hq⟩:=hq
 refine tG.intro st hq fun ds vs G1 H1 u1 st1 r1 h1=>?_
 unfold mkT at h1
 split at h1
 ·rename_i hz
  exact ⟨by rw [r1.length];exact hz,fun p hp=>h1 _ _ _ (.new st1.sub hp) (.tup (.of aX) (r1.mono (.into (st1.sub.free hp))))⟩
 ·exact h1.elim
theorem Ba {c:Nat}:[c].length<=sizeLine:=by show 1<=sizeLine;decide
def ixD:D->D->Option D
 | .lst _ xs,.int i=>atI xs i
 | .tup xs,.int i=>atI xs i
 | .str x,.int i=>(atI x i).map fun c=>.str [c]
 | _,_=>none
theorem Reps.atI {K:PySem.W.Frag} {G:Hp} {vs:List V} {ds:List D} {i:Int} {d:D} (r:Reps K G vs ds) (h:atI ds i=some d):∃ v,atI vs i=some v/\Rep K G v d:=by
 unfold L2.atI at h ⊢
 rw [r.length]
 cases e:ixN ds.length i with
 | none=>rw [e] at h;cases h
 | some j=>rw [e] at h;exact r.get h
theorem HS (K:PySem.W.Frag):ROk K (rIx K) ixD:=by
 intro G H x y dx dy d Q s rx ry e q
 unfold ixD at e
 split at e
 ·obtain ⟨a,vs,rfl,h,r⟩:=rx.seq_inv
  obtain ⟨v,e1,r1⟩:=r.atI e
  exact .inl ⟨a,vs,_,v,rfl,ry.int_inv,h.mono s,e1,q v G H (.refl s) r1⟩
 ·obtain ⟨a,vs,rfl,h,r⟩:=rx.tup_inv
  obtain ⟨v,e1,r1⟩:=r.atI e
  exact .inr (.inl ⟨a,vs,_,v,rfl,ry.int_inv,h.mono s,e1,q v G H (.refl s) r1⟩)
 ·rename_i z i
  obtain ⟨y',rfl,ey,hy⟩:=rx.str_inv
  subst ey
  cases e1:L2.atI y'.cps.toList i with
  | none=>rw [e1] at e;cases e
  | some c=>
   rw [e1] at e
   cases e
   exact .inr (.inr ⟨y',i,c,rfl,ry.int_inv,hy,e1,q _ G H (.refl s) (.strL (by simp) Ba)⟩)
 ·cases e
end
end L2
namespace L2
open PySem PySem.Spec PyProof.Rows
def nT {α:Type} (xs:List α) (lo hi:Option Int):List α:=(xs.drop (HT.sIx xs.length 0 lo)).take (HT.sIx xs.length xs.length hi - HT.sIx xs.length 0 lo)
theorem CO {α:Type} (xs:List α) (lo hi:Option Int):(nT xs lo hi).length<=xs.length:=by
 unfold nT
 rw [List.length_take,List.length_drop]
 omega
theorem Reps.cut {K:PySem.W.Frag} (r:Reps K G vs ds) (lo hi:Option Int):Reps K G (BF vs lo hi) (nT ds lo hi):=by
 unfold BF nT
 rw [r.length]
 exact (r.drop _).take _
section
variable {X:Cx} {a b c e:Expr} {es cV:List Expr} {lo hi:Option Expr} {ga gb gc:Ev->R D} {go gp:Ev->R (Option Int)} {gl:Ev->R (List D)} {pos p2:Pos}
def E2 (K:PySem.W.Frag):V->Option Int->Option Int->Hp->VK->Prop:=fun x lo hi H Q=>∃ a xs,x=.ref a/\SqT K H a xs/\
 (HT.sIx xs.length 0 lo=0/\HT.sIx xs.length xs.length hi=xs.length)/\Q (.ref a) H
theorem sl_tup_whole:SlR X (E2 X.K):=by
 intro pins s σ H x v vl vu lo hi sl Q I rx hs pl pu h
 obtain ⟨a,xs,rfl,hx,⟨hw1,hw2⟩,q⟩:=h
 cases rx
 obtain ⟨its,r,ht,hz⟩:=I.tuple hx
 have hlen:its.toArray.size=xs.length:=by rw [List.size_toArray];exact r.length.symm
 refine ⟨"tuple",_,PyProof.Rows.slot_tuple_getitem.lookup,ht.typeIs,?_⟩
 obtain ⟨os,hos,hcs,hds⟩:=id hs
 have hTs:s.TypeIs (.ref sl) "slice":=⟨os,hos,hcs⟩
 unfold getItem
 try with_reducible refine wpAny_holding ?_
 first|refine wpAny_bind (wpAny_pure ?_)|skip
 refine wpAny_bind (wpAny_sequenceKey ht.typeIs (by decide) ?_)
 refine wpAny_bind (wpAny_callSpecial?_slot (name:=Str.ofString "__getitem__") ht.typeIs PyProof.Rows.slot_tuple_getitem
  (wpAny_call_entry PyProof.Rows.slot_tuple_getitem ht.typeIs entry_tuple_getitem ?_ (args_tuple_getitem _ _)))
 show wpAny _ _ (Builtin.Tuple.tupleItemsOf (.ref a)>>=_) _ _ s
 refine wpAny_bind (tupleItemsOf_ ht ?_)
 refine wpAny_bind (wpAny_typeOf hTs ?_)
 rw [if_pos (by decide)]
 refine wpAny_bind (HT.sliceApplied_gen hs pl pu ?_)
 rw [hlen,hw1,hw2]
 dsimp only
 rw [if_pos (by simp)]
 have fin:EP X pins σ Q (.ref a) s:=⟨.ref a,H,I,rfl,q⟩
 obtain ⟨o,ho,hc,n,hd⟩:=id ht
 unfold Builtin.Tuple.tupleIsExact
 refine wpAny_bind (wpAny_bind (wpAny_typeOf ht.typeIs (wpAny_pure ?_)))
 rw [if_pos (by decide)]
 exact wpAny_bind (wpAny_rule (wpAny_pure ⟨_,rfl,wpAny_pure fin⟩))
theorem Fk {α:Type} (xs:List α) (a:Nat):∀ k:Nat,((List.range k).map (a + ·)).filterMap (fun i:Nat=>xs[i]?)=(xs.drop a).take k
 | 0=>by simp
 | k+1=>by
  rw [List.range_succ,List.map_append,List.filterMap_append,Fk xs a k,List.take_add_one,List.getElem?_drop]
  congr 1
  try (simp only [List.map_cons,List.map_nil,List.filterMap_cons,List.filterMap_nil];cases xs[a+k]? <;> rfl)
theorem vH (n d:Nat) (v:Option Int):(match v with|none=>(d:Int)|some i=>max 0 (min (if i<0 then i+(n:Int) else i) (n:Int)))=((HT.sIx n d v:Nat):Int):=by
 cases v with
 | none=>rfl
 | some i=>
  show max 0 (min (if i<0 then i+(n:Int) else i) (n:Int))=(((if i<0 then (i+(n:Int)).toNat else min i.toNat n):Nat):Int)
  split <;> omega
theorem CT (lo hi:Option Int) (n:Nat):Builtin.Str.strSliceIndices lo hi 1 n=(List.range (HT.sIx n n hi - HT.sIx n 0 lo)).map (HT.sIx n 0 lo + ·):=by
 have e:Builtin.Str.strSliceIndices lo hi 1 n=sliceRange ((HT.sIx n 0 lo:Nat):Int) ((HT.sIx n n hi:Nat):Int) 1:=by
  rw [<- vH n 0 lo,<- vH n n hi]
  rfl
 rw [e]
 generalize HT.sIx n 0 lo=a
 generalize HT.sIx n n hi=b
 unfold sliceRange
 have hc:(if (1:Int) > 0 then (if (a:Int)<(b:Int) then ((b:Int) - (a:Int)+1 - 1) / 1 else 0) else (if (a:Int) > (b:Int) then ((a:Int) - (b:Int) - 1 - 1) / (-1) else 0)).toNat=b - a:=by
  rw [if_pos (by decide)]
  split
  ·rw [Int.ediv_one];omega
  ·omega
 simp only [hc]
 apply List.map_congr_left
 intro k _
 omega
theorem zb (x:Str) (lo hi:Option Int):(Txt.slice x lo hi).cps.toList=nT x.cps.toList lo hi:=by
 have hn:x.cps.toList.length=x.length:=Str.len_list x
 unfold Txt.slice nT
 rw [hn,CT]
 have hb:HT.sIx x.length x.length hi<=x.length:=HT.sIx_le _ _ (Nat.le_refl _) hi
 by_cases hc:((1:Int)==1 && ((List.range (HT.sIx x.length x.length hi - HT.sIx x.length 0 lo)).map (HT.sIx x.length 0 lo + ·)).length==x.length)=true
 ·rw [if_pos hc]
  have h2:HT.sIx x.length x.length hi - HT.sIx x.length 0 lo=x.length:=by simpa using hc
  have h3:HT.sIx x.length 0 lo=0\/x.length=0:=by omega
  rw [h2]
  rcases h3 with h3|h3
  ·rw [h3,List.drop_zero,<- hn,List.take_length]
  ·have:x.cps.toList=[]:=List.eq_nil_of_length_eq_zero (by rw [hn];exact h3)
   rw [this];simp
 ·rw [if_neg hc]
  have e:(fun i:Nat=>x.cps[i]?)=(fun i:Nat=>x.cps.toList[i]?):=by funext i;simp
  show (List.filterMap (fun i:Nat=>x.cps[i]?) _).toArray.toList=_
  rw [List.toList_toArray,e,Fk]
def IJ:V->Option Int->Option Int->Hp->VK->Prop:=fun x lo hi H Q=>∃ y:Str,x=.str y/\y.length<=sizeLine/\Q (.str (Txt.slice y lo hi)) H
theorem sl_str:SlR X IJ:=by
 intro pins s σ H x v vl vu lo hi sl Q I rx hs pl pu h
 obtain ⟨y,rfl,hz,q⟩:=h
 obtain ⟨t,rfl⟩:=rx
 refine ⟨"str",_,F.slot_str_getitem.lookup,typeIs_str _ _ _,?_⟩
 cases pl with
 | none=>
  cases pu with
  | none=>exact wpAny_getItem_str_slice (l:=none) (u:=none) (st:=none) hs rfl (post_val_or_str ⟨Nat.le_trans (Txt.slice_le y _ _) hz,fun t' k=>⟨.str _,H,I.tok k,⟨t',rfl⟩,q⟩⟩)
  | int j uj=>exact wpAny_getItem_str_slice (l:=none) (u:=some (j,uj)) (st:=none) hs rfl (post_val_or_str ⟨Nat.le_trans (Txt.slice_le y _ _) hz,fun t' k=>⟨.str _,H,I.tok k,⟨t',rfl⟩,q⟩⟩)
 | int i ui=>
  cases pu with
  | none=>exact wpAny_getItem_str_slice (l:=some (i,ui)) (u:=none) (st:=none) hs rfl (post_val_or_str ⟨Nat.le_trans (Txt.slice_le y _ _) hz,fun t' k=>⟨.str _,H,I.tok k,⟨t',rfl⟩,q⟩⟩)
  | int j uj=>exact wpAny_getItem_str_slice (l:=some (i,ui)) (u:=some (j,uj)) (st:=none) hs rfl (post_val_or_str ⟨Nat.le_trans (Txt.slice_le y _ _) hz,fun t' k=>⟨.str _,H,I.tok k,⟨t',rfl⟩,q⟩⟩)
def D1 (lo hi:Option Int):D->Option D
 | .str x=>some (.str (nT x lo hi))
 | .tup xs=>some (.tup (nT xs lo hi))
 | .lst _ xs=>some (.lst false (nT xs lo hi))
 | _=>none
def rSl (K:PySem.W.Frag):V->Option Int->Option Int->Hp->VK->Prop:=fun x lo hi H Q=>IJ x lo hi H Q\/E2 K x lo hi H Q\/Ix K x lo hi H Q\/IP K x lo hi H Q
theorem Fh:SlR X (rSl X.K):=sl_str.or (sl_tup_whole.or (sl_tup.or CA))
def QFO (X:Cx) (o:Option Expr) (g:Ev->R (Option Int)):Prop:=PO X o (tG X (fun _ b c=>b=c) g)
def asI:D->R Int
 | .int i=>.ok i
 | _=>.no
theorem we (h:QF X e ga):QFO X (some e) (fun Z=>ga Z>>=fun x=>asI x>>=fun i=>.ok (some i)):=by
 intro pins s σ H Q I hq
 refine Df h pins s σ H Q I ?_
 obtain ⟨G,Z,st,hq⟩:=hq
 refine tG.intro st hq fun x v G1 H1 u1 st1 r1 h1=>?_
 cases r1 with
 | int i=>exact ⟨i,rfl,h1 (some i) G1 H1 (.refl st1.sub) rfl⟩
 | _=>exact h1.elim
def gSl (ga:Ev->R D) (go gp:Ev->R (Option Int)):Ev->R D:=fun Z=>ga Z>>=fun x=>go Z>>=fun l=>gp Z>>=fun u=>ofO (D1 l u x)
def E5 (K:PySem.W.Frag) (r:List V->Hp->VK->Prop) (f:List D->Option D):Prop:=∀ (G H:Hp) (xs:List V) (ds:List D) (d:D) (Q:VK),Same G H->Reps K G xs ds->f ds=some d->Fin G H (Rep K) Q d->r xs H Q
theorem oN {id:String} {r:List V->Hp->VK->Prop} {f:List D->Option D} (hc:jW X (.builtin id) r) (hf:E5 X.K r f) (hg:Gl X x) (hm:X.mg x=none) (hv:bootBuiltins x=some (.builtin id)) (ha:QFA X (e::es) gl)
 (hn:x ≠ "__name__":=by decide) (hdb:(x==("__debug__":Str))=false:=by decide)
 (he:starEach (e::es) X.env=(false,eval e X.env)::starEach es X.env:=by rfl) (hpl:(backTo pos (starEach es X.env)).any (·.1)=false:=by rfl):QF X (.Call (.Name x p) (e::es) [] pos) (fun Z=>gl Z>>=fun ds=>ofO (f ds)):=by
 intro pins s σ H Q I h
 refine kZ hc hg hm hv ha hn hdb he hpl pins s σ H Q I ?_
 obtain ⟨G,Z,st,h⟩:=h
 refine tG.intro st h fun ds vs G1 H1 u1 st1 r1 h1=>?_
 obtain ⟨d,e,q⟩:=ofO.ok h1
 exact hf G1 H1 vs ds d Q st1.sub r1 e q
theorem lK {T:String} {r:List V->Hp->VK->Prop} {f:List D->Option D} (hc:jW X (.type T) r) (hf:E5 X.K r f) (hg:Gl X x) (hm:X.mg x=none) (hv:bootBuiltins x=some (.type T)) (ha:QFA X (e::es) gl)
 (hn:x ≠ "__name__":=by decide) (hdb:(x==("__debug__":Str))=false:=by decide)
 (he:starEach (e::es) X.env=(false,eval e X.env)::starEach es X.env:=by rfl) (hpl:(backTo pos (starEach es X.env)).any (·.1)=false:=by rfl):QF X (.Call (.Name x p) (e::es) [] pos) (fun Z=>gl Z>>=fun ds=>ofO (f ds)):=by
 intro pins s σ H Q I h
 refine sg hc hg hm hv ha hn hdb he hpl pins s σ H Q I ?_
 obtain ⟨G,Z,st,h⟩:=h
 refine tG.intro st h fun ds vs G1 H1 u1 st1 r1 h1=>?_
 obtain ⟨d,e,q⟩:=ofO.ok h1
 exact hf G1 H1 vs ds d Q st1.sub r1 e q
theorem Reps.one {K:PySem.W.Frag} (r:Reps K G vs [d]):∃ v,vs=[v]/\Rep K G v d:=by
 cases r with
 | cons r t=>cases t;exact ⟨_,rfl,r⟩
theorem Reps.two {K:PySem.W.Frag} {d':D} (r:Reps K G vs [d,d']):∃ v w,vs=[v,w]/\Rep K G v d/\Rep K G w d':=by
 cases r with
 | cons r t=>obtain ⟨w,rfl,r'⟩:=t.one;exact ⟨_,w,rfl,r,r'⟩
def eZ:List D->Option D
 | [.str x]=>some (.int x.length)
 | [.tup xs]=>some (.int xs.length)
 | [.lst _ xs]=>some (.int xs.length)
 | _=>none
theorem AQ (hg:Gl X "len") (hm:X.mg "len"=none) (ha:QFA X [e] gl) (he:starEach [e] X.env=[(false,eval e X.env)]:=by rfl):QF X (.Call (.Name "len" p) [e] [] pos) (fun Z=>gl Z>>=fun ds=>ofO (eZ ds)):=
 oN Ay (by
  intro G H xs ds d Q s r e q
  unfold eZ at e
  split at e
  ·cases e
   obtain ⟨v,rfl,r1⟩:=r.one
   obtain ⟨y,rfl,ey,hy⟩:=r1.str_inv
   subst ey
   exact ⟨_,y.length,rfl,⟨hy,rfl⟩,by rw [<- Str.len_list];exact q _ G H (.refl s) (.int _)⟩
  ·cases e
   obtain ⟨v,rfl,r1⟩:=r.one
   obtain ⟨a,vs,rfl,h,t⟩:=r1.tup_inv
   exact ⟨_,vs.length,rfl,.inr ⟨vs,h.mono s,rfl⟩,by rw [t.length];exact q _ G H (.refl s) (.int _)⟩
  ·cases e
   obtain ⟨v,rfl,r1⟩:=r.one
   obtain ⟨a,vs,rfl,h,t⟩:=r1.seq_inv
   exact ⟨_,vs.length,rfl,.inl ⟨vs,h.mono s,rfl⟩,by rw [t.length];exact q _ G H (.refl s) (.int _)⟩
  ·cases e) hg hm PySem.boot_len ha (he:=by rw [he];rfl)
def ju:List D->Option D
 | [.lst _ xs]=>some (.tup xs)
 | [.tup xs]=>some (.tup xs)
 | _=>none
theorem Ar (K:PySem.W.Frag):E5 K (fun xs H Q=>∃ p ys,xs=[.ref p]/\((SqL K H p ys/\∀ l,H l=none->Q (.ref l) (upd H l (.tup ys)))\/(SqT K H p ys/\Q (.ref p) H))) ju:=by
 intro G H xs ds d Q s r e q
 unfold ju at e
 split at e
 ·cases e
  obtain ⟨v,rfl,r1⟩:=r.one
  obtain ⟨a,vs,rfl,h,t⟩:=r1.seq_inv
  exact ⟨a,vs,rfl,.inl ⟨h.mono s,fun l hl=>q _ _ _ (.new s hl) (.tup (.of aX) (t.mono (.into (s.free hl))))⟩⟩
 ·cases e
  obtain ⟨v,rfl,r1⟩:=r.one
  obtain ⟨a,vs,rfl,h,t⟩:=r1.tup_inv
  exact ⟨a,vs,rfl,.inr ⟨h.mono s,q _ G H (.refl s) (.tup h t)⟩⟩
 ·cases e
end
end L2
namespace L2
open PySem PySem.Spec PyProof.Rows
def ItOk (K:PySem.W.Frag) (K5:Hp) (J:It) (items:List D):Prop:=∀ (i:Nat) (G H:Hp),Same K5 G->Same G H->
 (∀ d,items[i]?=some d->J.go i H/\∀ x H',J.yld i H x H'->∃ G',Up G H G' H'/\Rep K G' x d)/\(items.length<=i->J.stop i H)
def QIF (X:Cx) (tg iter:Expr) (g:Ev->R (List D)):Prop:=PI X tg iter (tG X (fun G J items=>ItOk X.K G J items) g)
def Its (x:Str):It:=⟨fun i _=>i<x.cps.size,fun i H v H'=>H'=H/\∃ c,x.cps[i]?=some c/\v=.str ⟨#[c]⟩,fun i _=>x.cps.size<=i⟩
section
variable {X:Cx} {tg a e:Expr} {ga:Ev->R D} {gl:Ev->R (List D)} {pos:Pos}
theorem xp {l:Addr} {Rr:It->Hp->Prop} (I:Inv X pins σ H s) (h:SqL X.K H l xs) (q:Rr (Itl X.K l) H) :
  wpAny (model X.prog X.w) X.A (pyIter (.ref l)) (PIE X pins σ tg Rr) X.xe s:=by
 obtain ⟨its,rv,p,hz⟩:=I.list h
 refine wpAny_pyIter_list p.isList ?_
 refine ⟨s.heap.objs.size,[s.heap.objs.size],_,_,H,rfl,I.kept (t':=s.toks) fun b o e=>Heap.get?_push_of_some _ e,ze l _,⟨_,Heap.get?_push_size _ rfl,rfl,rfl⟩,fun b hb=>?_,q⟩
 have e:b=s.heap.objs.size:=by simpa using hb
 subst e
 exact I.fpOk (Nat.le_refl _) (I.hok.fresh (Nat.le_refl _))
theorem Bi {l:Addr} {Rr:It->Hp->Prop} (I:Inv X pins σ H s) (h:SqT X.K H l xs) (q:Rr (Itt X.K l) H) :
  wpAny (model X.prog X.w) X.A (pyIter (.ref l)) (PIE X pins σ tg Rr) X.xe s:=by
 obtain ⟨its,rv,p,hz⟩:=I.tuple h
 refine wpAny_pyIter_tuple (show s.heap.IsTuple l its.toArray from p) ?_
 refine ⟨s.heap.objs.size,[s.heap.objs.size],_,_,H,rfl,I.kept (t':=s.toks) fun b o e=>Heap.get?_push_of_some _ e,wE l _,⟨_,Heap.get?_push_size _ rfl,rfl,rfl⟩,fun b hb=>?_,q⟩
 have e:b=s.heap.objs.size:=by simpa using hb
 subst e
 exact I.fpOk (Nat.le_refl _) (I.hok.fresh (Nat.le_refl _))
theorem wC {w:World} {K:PySem.W.Frag} (it:Addr) (x:Str) (t:Tok):Turn P w K tg (Its x) [it] it (fun i h=>h.IsStrIter it "str_ascii_iterator" x t i) where
 mem:=by simp
 obj:=fun i h st b hb=>by
  have e:b=it:=by simpa using hb
  subst e
  obtain ⟨o,e,c,d⟩:=st
  exact ⟨o,e,fun v z=>by rw [d] at z;cases z⟩
 keep:=fun i h h' st k=>let ⟨o,ho,r⟩:=st;⟨o,k it (by simp) o ho,r⟩
 item:=by
  intro X hP hw hK hc i pins s σ H E I hf st hg
  subst hP hw hK
  have hg':i<x.cps.size:=hg
  obtain ⟨f0,f1,f2,f3,f4,f5⟩:=hf it (by simp)
  refine wpAny_pyNext_ascii_item st (c:=x.cps[i]) (by simp [hg']) fun h' st' sb=>?_
  have I1:Inv X pins σ H { s with heap:=h',toks:=s.toks+1 }:=I.turned (t':=s.toks+1) (fun b o hb e=>(sb.2 b hb).trans e) f0 f1 f3 f4 f5
  obtain ⟨o,e,c,d⟩:=id st'
  exact ⟨_,rfl,ym (s:={ s with heap:=h',toks:=s.toks+1 }) e c d (by decide) ⟨.str ⟨#[x.cps[i]]⟩,H,I1,⟨_,rfl⟩,⟨rfl,_,by simp [hg'],rfl⟩,st',fun b hb=>(hf b hb).1⟩⟩
 done:=by
  intro X hP hw hK hc i pins s σ H E I hf st hg
  subst hP hw hK
  obtain ⟨f0,f1,f2,f3,f4,f5⟩:=hf it (by simp)
  have hg':x.cps.size<=i:=hg
  exact wpAny_pyNext_ascii_end (I.ok.hd hc) st (by simp;omega) fun h' eb=>⟨rfl,I.turned (t':=s.toks) (fun b o hb e=>eb b o hb e) f0 f1 f3 f4 f5⟩
 self:=fun _ _ _ _ _ st h=>wpAny_pyIter_striter_ascii st h
theorem xK {w:World} {K:PySem.W.Frag} (it:Addr) (x:Str) (t:Tok):Turn P w K tg (Its x) [it] it (fun i h=>h.IsStrIter it "str_iterator" x t i) where
 mem:=by simp
 obj:=fun i h st b hb=>by
  have e:b=it:=by simpa using hb
  subst e
  obtain ⟨o,e,c,d⟩:=st
  exact ⟨o,e,fun v z=>by rw [d] at z;cases z⟩
 keep:=fun i h h' st k=>let ⟨o,ho,r⟩:=st;⟨o,k it (by simp) o ho,r⟩
 item:=by
  intro X hP hw hK hc i pins s σ H E I hf st hg
  subst hP hw hK
  have hg':i<x.cps.size:=hg
  obtain ⟨f0,f1,f2,f3,f4,f5⟩:=hf it (by simp)
  refine wpAny_pyNext_wide_item st (c:=x.cps[i]) (by simp [hg']) fun h' st' sb=>?_
  have I1:Inv X pins σ H { s with heap:=h',toks:=s.toks+1 }:=I.turned (t':=s.toks+1) (fun b o hb e=>(sb.2 b hb).trans e) f0 f1 f3 f4 f5
  obtain ⟨o,e,c,d⟩:=id st'
  exact ⟨_,rfl,ym (s:={ s with heap:=h',toks:=s.toks+1 }) e c d (by decide) ⟨.str ⟨#[x.cps[i]]⟩,H,I1,⟨_,rfl⟩,⟨rfl,_,by simp [hg'],rfl⟩,st',fun b hb=>(hf b hb).1⟩⟩
 done:=by
  intro X hP hw hK hc i pins s σ H E I hf st hg
  subst hP hw hK
  obtain ⟨f0,f1,f2,f3,f4,f5⟩:=hf it (by simp)
  have hg':x.cps.size<=i:=hg
  exact wpAny_pyNext_wide_end (I.ok.hd hc) st (by simp;omega) fun h' eb=>⟨rfl,I.turned (t':=s.toks) (fun b o hb e=>eb b o hb e) f0 f1 f3 f4 f5⟩
 self:=fun _ _ _ _ _ st h=>wpAny_pyIter_striter_wide st h
theorem Gq {t:Tok} {Rr:It->Hp->Prop} (I:Inv X pins σ H s) (q:Rr (Its x) H) :
  wpAny (model X.prog X.w) X.A (pyIter (.str x t)) (PIE X pins σ tg Rr) X.xe s:=by
 have fp:∀ (o:Obj),∀ b∈[s.heap.objs.size],yV X pins H b:=fun o b hb=>by
  have e:b=s.heap.objs.size:=by simpa using hb
  subst e
  exact I.fpOk (Nat.le_refl _) (I.hok.fresh (Nat.le_refl _))
 cases ha:x.cps.all (· < 128)
 ·refine wpAny_pyIter_wide ha ⟨s.heap.objs.size,[s.heap.objs.size],_,_,H,rfl,I.kept (t':=s.toks) fun b o e=>Heap.get?_push_of_some _ e,xK _ x t,⟨_,Heap.get?_push_size _ rfl,rfl,rfl⟩,fp default,q⟩
 ·refine wpAny_pyIter_ascii ha ⟨s.heap.objs.size,[s.heap.objs.size],_,_,H,rfl,I.kept (t':=s.toks) fun b o e=>Heap.get?_push_of_some _ e,wC _ x t,⟨_,Heap.get?_push_size _ rfl,rfl,rfl⟩,fp default,q⟩
def kB:D->R (List D)
 | .lst _ xs=>.ok xs
 | .tup xs=>.ok xs
 | .str x=>.ok (x.map fun c=>.str [c])
 | _=>.no
theorem ItOk.list {K:PySem.W.Frag} {l:Addr} (h:SqL K G l vs) (r:Reps K G vs ds):ItOk K G (Itl K l) ds:=by
 intro i G1 H1 s1 s2
 refine ⟨fun d e=>?_,fun hl=>⟨vs,(h.mono s1).mono s2,by rw [r.length];exact hl⟩⟩
 obtain ⟨v,ev,rv⟩:=r.get e
 refine ⟨⟨vs,v,(h.mono s1).mono s2,ev⟩,fun x H' y=>?_⟩
 obtain ⟨rfl,y⟩:=y
 have:=y vs ((h.mono s1).mono s2)
 rw [ev] at this
 cases this
 exact ⟨G1,.refl s2,rv.mono s1⟩
theorem ItOk.tup {K:PySem.W.Frag} {l:Addr} (h:SqT K G l vs) (r:Reps K G vs ds):ItOk K G (Itt K l) ds:=by
 intro i G1 H1 s1 s2
 refine ⟨fun d e=>?_,fun hl=>⟨vs,(h.mono s1).mono s2,by rw [r.length];exact hl⟩⟩
 obtain ⟨v,ev,rv⟩:=r.get e
 refine ⟨⟨vs,v,(h.mono s1).mono s2,ev⟩,fun x H' y=>?_⟩
 obtain ⟨rfl,y⟩:=y
 have:=y vs ((h.mono s1).mono s2)
 rw [ev] at this
 cases this
 exact ⟨G1,.refl s2,rv.mono s1⟩
theorem ItOk.str {K:PySem.W.Frag} (x:Str):ItOk K G (Its x) (x.cps.toList.map fun c=>.str [c]):=by
 intro i G1 H1 s1 s2
 refine ⟨fun d e=>?_,fun hl=>show x.cps.size<=i by simpa using hl⟩
 rw [List.getElem?_map] at e
 cases ec:x.cps.toList[i]? with
 | none=>rw [ec] at e;cases e
 | some c=>
  rw [ec] at e
  cases e
  have hi:i<x.cps.size:=by
   have:=(List.getElem?_eq_some_iff.mp ec).1
   simpa using this
  refine ⟨hi,fun v H' y=>?_⟩
  obtain ⟨rfl,c',e',rfl⟩:=y
  have:c'=c:=by
   have h2:x.cps.toList[i]?=x.cps[i]?:=by simp
   rw [h2,e'] at ec
   exact Option.some.inj ec
  subst this
  exact ⟨G1,.refl s2,.strL rfl Ba⟩
theorem ItOk.range {K:PySem.W.Frag} (lo:Int) (n:Nat):ItOk K G (Itr lo n) ((List.range n).map fun i=>.int (lo+(i:Nat))):=by
 intro i G1 H1 s1 s2
 refine ⟨fun d e=>?_,fun hl=>show n<=i by simpa using hl⟩
 rw [List.getElem?_map] at e
 by_cases hi:i<n
 ·rw [List.getElem?_range hi] at e
  cases e
  refine ⟨hi,fun v H' y=>?_⟩
  obtain ⟨rfl,rfl⟩:=y
  exact ⟨G1,.refl s2,.int _⟩
 ·rw [List.getElem?_eq_none (by simpa using hi)] at e
  cases e
theorem yM (ha:QF X a ga):QIF X tg a (fun Z=>ga Z>>=kB):=by
 intro pins s σ H Rr I h
 obtain ⟨G,Z,st,h⟩:=h
 have t:tF X ga σ H (fun x H1=>∃ G1 d,Same G1 H1/\Rep X.K G1 x d/\(kB d).post (Fin G1 H1 (fun G J items=>ItOk X.K G J items) Rr) (Exx X σ G1 H1)):=
  tG.intro st h fun x v G1 H1 u1 st1 r1 h1=>⟨G1,x,st1.sub,r1,h1⟩
 refine thn (ha pins s σ H _ I t) fun v s1 ⟨x,H1,I1,r1,G1,d,sub,rd,h1⟩=>?_
 cases rd with
 | lst hh r=>cases r1;exact xp I1 (.of (sub _ _ hh)) (h1 _ G1 H1 (.refl sub) (.list (.of hh) r))
 | fls hh r=>cases r1;exact xp I1 (hh.mono sub) (h1 _ G1 H1 (.refl sub) (.list hh r))
 | tup hh r=>cases r1;exact Bi I1 (hh.mono sub) (h1 _ G1 H1 (.refl sub) (.tup hh r))
 | str y hy=>obtain ⟨t,rfl⟩:=r1;exact Gq I1 (h1 _ G1 H1 (.refl sub) (.str y))
 | _=>exact h1.elim
def bp:List D->R (List D)
 | [.int j]=>if -(2 ^ 62)<=j/\j<2 ^ 62 then .ok ((List.range j.toNat).map fun i=>.int (0+(i:Nat))) else .no
 | _=>.no
def iE:List D->R (List D)
 | [.int i,.int j]=>if -(2 ^ 62)<=i/\i<2 ^ 62/\-(2 ^ 62)<=j/\j<2 ^ 62 then .ok ((List.range (j - i).toNat).map fun k=>.int (i+(k:Nat))) else .no
 | _=>.no
theorem rH (hg:Gl X "range") (hm:X.mg "range"=none) (ha:QFA X [a] gl) (hs:starEach [a] X.env=[(false,eval a X.env)]:=by rfl):QIF X tg (.Call (.Name "range" p) [a] [] pos) (fun Z=>gl Z>>=bp):=by
 intro pins s σ H Rr I h
 refine yF hg hm ha hs pins s σ H Rr I ?_
 obtain ⟨G,Z,st,h⟩:=h
 refine tG.intro st h fun ds vs G1 H1 u1 st1 r1 h1=>?_
 unfold bp at h1
 split at h1
 ·split at h1
  ·rename_i hj
   obtain ⟨v,rfl,r⟩:=r1.one
   obtain rfl:=r.int_inv
   exact ⟨_,rfl,hj.1,hj.2,h1 _ G1 H1 (.refl st1.sub) (.range 0 _)⟩
  ·exact h1.elim
 ·exact h1.elim
theorem rm {b:Expr} (hg:Gl X "range") (hm:X.mg "range"=none) (ha:QFA X [a,b] gl) (hs:starEach [a,b] X.env=[(false,eval a X.env),(false,eval b X.env)]:=by rfl) (hs2:starEach [b] X.env=[(false,eval b X.env)]:=by rfl) :
  QIF X tg (.Call (.Name "range" p) [a,b] [] pos) (fun Z=>gl Z>>=iE):=by
 intro pins s σ H Rr I h
 refine zq hg hm ha hs hs2 pins s σ H Rr I ?_
 obtain ⟨G,Z,st,h⟩:=h
 refine tG.intro st h fun ds vs G1 H1 u1 st1 r1 h1=>?_
 unfold iE at h1
 split at h1
 ·split at h1
  ·rename_i hj
   obtain ⟨v,w,rfl,r,r'⟩:=r1.two
   obtain rfl:=r.int_inv
   obtain rfl:=r'.int_inv
   exact ⟨_,_,rfl,hj,h1 _ G1 H1 (.refl st1.sub) (.range _ _)⟩
  ·exact h1.elim
 ·exact h1.elim
end
noncomputable def ObSt (K:PySem.W.Frag) (K0 G H:Hp) (σ:St) (Z:Ev):Prop:=
 ∃ ow:jF,(∀ (i:Nat) ds l,Z[i]?=some (some (.own ds))->σ[i]?=some (some (.ref l))->ow l=some (i,0))/\
  ∀ (i:Nat) m C p fs,Z[i]?=some (some (.obj m C p fs))->σ[i]?=some (some (.ref p))/\ObjAt K K0 G H ow i m C p fs
theorem ObSt.rd {K:PySem.W.Frag} {K0:Hp} (h:ObSt K K0 G H σ Z):∀ (i:Nat) m C p fs,Z[i]?=some (some (.obj m C p fs))->σ[i]?=some (some (.ref p))/\∃ ow,ObjAt K (fun _=>none) G H ow i m C p fs:=fun i m C p fs e=>by
 obtain ⟨ow,_,o2⟩:=h
 exact ⟨(o2 i m C p fs e).1,ow,(o2 i m C p fs e).2.rd⟩
def NoOwn (Z:Ev):Prop:=∀ (j:Nat) (x:Sl),Z[j]?=some (some x)->∃ d,x=.val d
theorem NoOwn.own (h:NoOwn Z) (j:Nat) (ds:List D):Z[j]? ≠ some (some (.own ds)):=fun e=>by obtain ⟨d,z⟩:=h j _ e;cases z
theorem NoOwn.obj (h:NoOwn Z) (j:Nat) (m:Bool) (C p:Addr) (fs:List (Nat×Fd)):Z[j]? ≠ some (some (.obj m C p fs)):=fun e=>by obtain ⟨d,z⟩:=h j _ e;cases z
theorem NoOwn.ob {K:PySem.W.Frag} {K0:Hp} (h:NoOwn Z):ObSt K K0 G H σ Z:=
 ⟨fun _=>none,fun i ds l e=>absurd e (h.own i ds),fun i m C p fs e=>absurd e (h.obj i m C p fs)⟩
structure StR (K:PySem.W.Frag) (K1 K0 G H:Hp) (σ:St) (Z:Ev):Prop where
 e:StE K G H σ Z
 sub0:Same K1 K0
 up:Up K1 K0 G H
 own:∀ (i:Nat) ds,Z[i]?=some (some (.own ds))->∃ l vs,σ[i]?=some (some (.ref l))/\H l=some (.lst vs)/\G l=none/\K0 l=none/\Reps K G vs ds
 inj:∀ (i j:Nat) ds es l,Z[i]?=some (some (.own ds))->Z[j]?=some (some (.own es))->σ[i]?=some (some (.ref l))->σ[j]?=some (some (.ref l))->i=j
 ob:ObSt K K0 G H σ Z
section
variable {K:PySem.W.Frag} {K1 K0 G H G' H':Hp} {σ:St} {Z:Ev}
theorem StR.ups (s:StR K K1 K0 G H σ Z) (u:Up G H G' H'):StR K K1 K0 G' H' σ Z:=⟨s.e.up u,s.sub0,s.up.trans u,(fun i ds e=>by
 obtain ⟨l,vs,h1,h2,h3,h4,h5⟩:=s.own i ds e
 refine ⟨l,vs,h1,u.hh _ _ h2,?_,h4,h5.mono u.gg⟩
 cases q:G' l with
 | none=>rfl
 | some o=>
  rcases u.fr l o q with z|z
  ·rw [h3] at z;cases z
  ·rw [h2] at z;cases z),s.inj,by
 obtain ⟨ow,o1,o2⟩:=s.ob
 exact ⟨ow,o1,fun i m C p fs e=>⟨(o2 i m C p fs e).1,(o2 i m C p fs e).2.keep (.up u)⟩⟩⟩
theorem StR.set (s:StR K K1 K0 G H σ Z) (r:Rep K G v d) (i:Nat):StR K K1 K0 G H (σ.set i (some v)) (Z.set i (some (.val d))):=by
 have get:∀ (j:Nat) x,(Z.set i (some (.val d)))[j]?=some (some x)->(j=i/\x=.val d/\i<σ.length)\/(j≠i/\Z[j]?=some (some x)/\(σ.set i (some v))[j]?=σ[j]?):=fun j x h=>by
  by_cases e:i=j
  ·subst e
   have hl:i<Z.length:=by
    have:=(List.getElem?_eq_some_iff.mp h).1
    simpa using this
   rw [List.getElem?_set_self hl] at h
   exact .inl ⟨rfl,by injection (Option.some.inj h) with q;exact q.symm,by rw [s.e.len];exact hl⟩
  ·rw [List.getElem?_set_ne e] at h
   exact .inr ⟨fun z=>e z.symm,h,List.getElem?_set_ne e⟩
 have ob:ObSt K K0 G H (σ.set i (some v)) (Z.set i (some (.val d))):=by
  obtain ⟨ow,o1,o2⟩:=s.ob
  refine ⟨ow,fun j ds l h1 h2=>?_,fun j m C p fs h1=>?_⟩
  ·rcases get j _ h1 with ⟨_,e,_⟩|⟨_,e,e'⟩
   ·cases e
   ·exact o1 j ds l e (e' ▸ h2)
  ·rcases get j _ h1 with ⟨_,e,_⟩|⟨_,e,e'⟩
   ·cases e
   ·rw [e'];exact o2 j m C p fs e
 refine ⟨⟨s.e.sub,by simp [s.e.len],fun j d' h=>?_,ob.rd⟩,s.sub0,s.up,fun j ds h=>?_,fun j k ds es l h1 h2 h3 h4=>?_,ob⟩
 ·rcases get j _ h with ⟨rfl,e,hl⟩|⟨_,e,e'⟩
  ·cases e
   exact ⟨v,List.getElem?_set_self hl,r⟩
  ·rw [e'];exact s.e.val j d' e
 ·rcases get j _ h with ⟨_,e,_⟩|⟨_,e,e'⟩
  ·cases e
  ·rw [e'];exact s.own j ds e
 ·rcases get j _ h1 with ⟨_,e,_⟩|⟨_,e,e'⟩
  ·cases e
  ·rcases get k _ h2 with ⟨_,f,_⟩|⟨_,f,f'⟩
   ·cases f
   ·exact s.inj j k ds es l e f (e' ▸ h3) (f' ▸ h4)
end
def PGF (X:Cx) (tg:Expr) (asg:D->Ev->R Ev):Prop:=PG X tg (fun v σ H Q=>∃ K1 K0 G Z d Z',StR X.K K1 K0 G H σ Z/\Rep X.K G v d/\asg d Z=.ok Z'/\∀ σ',StR X.K K1 K0 G H σ' Z'->Q σ' H)
section
variable {X:Cx} {pos:Pos}
def jM (i:Nat):D->Ev->R Ev:=fun d Z=>.ok (Z.set i (some (.val d)))
theorem dM (i:Nat) (hN:X.N.Nodup) (hi:X.N[i]?=some x:=by rfl) (hx:Loc X.env.scope x:=by first|exact Or.inl rfl|exact Or.inr rfl)
 (hf:X.fn x=true\/X.env.scope.names.lookup x=some .local:=by first|exact .inl rfl|exact .inr rfl):PGF X (.Name x pos) (jM i):=by
 intro pins s σ H v u Q I r h
 obtain ⟨K1,K0,G,Z,d,Z',st,rd,e,q⟩:=h
 cases e
 exact gz hN hi hx hf pins s σ H v u Q I r (q _ (st.set rd i))
end
end L2
namespace L2
open PySem PySem.Spec PyProof.Rows
def xy (K:PySem.W.Frag) (G H:Hp) (Q:VK):List D->Prop:=fun ds=>∀ l vs G' H',Up G H G' H'->H' l=none->Reps K G' vs ds->Q (.ref l) (upd H' l (.lst vs))
def tL (X:Cx) (g:Ev->R (List D)):TE:=fun σ H Q=>∃ G Z,StE X.K G H σ Z/\(g Z).post (xy X.K G H Q) (Exx X σ G H)
def QFL (X:Cx) (e:Expr) (g:Ev->R (List D)):Prop:=PE X e (tL X g)
theorem oF {e:Expr} {g:Ev->R (List D)} (h:QFL X e g):QF X e (fun Z=>g Z>>=fun ds=>.ok (.lst false ds)):=by
 intro pins s σ H Q I hq
 refine h pins s σ H Q I ?_
 obtain ⟨G,Z,st,hq⟩:=hq
 try dsimp only at hq
 refine ⟨G,Z,st,?_⟩
 cases e:g Z with
 | ok ds=>
  rw [e] at hq
  intro l vs G' H' u hl r
  exact hq _ _ _ (u.trans (.new u.sub hl)) (.lst aX (r.mono (.into (u.sub.free hl))))
 | ex C=>rw [e] at hq;exact hq
 | no=>rw [e] at hq;exact hq
theorem xF (h:QFA X es gl):QFL X (.List es pos) (fun Z=>gl Z>>=fun ds=>if ds.length<=sizeLine then .ok ds else .no):=by
 intro pins s σ H Q I hq
 refine D6 h pins s σ H Q I ?_
 obtain ⟨G,Z,st,hq⟩:=hq
 try dsimp only at hq
 refine ⟨G,Z,st,?_⟩
 cases e:gl Z with
 | ok ds=>
  rw [e] at hq
  intro vs G' H' u r
  simp only [R.ok_bind] at hq
  split at hq
  ·rename_i hz
   exact ⟨by rw [r.length];exact hz,fun p hp=>hq p vs G' H' u hp r⟩
  ·exact hq.elim
 | ex C=>rw [e] at hq;exact hq
 | no=>rw [e] at hq;exact hq
def oG (env:Env):List (Str×NameKind)->List (Str×Addr)->List (Str×Addr)
 | [],cs=>cs
 | (n,k)::r,cs=>oG env r (if (k==.free)=true then (match env.cells.lookup n with|some c=>(n,c)::cs|none=>cs) else cs)
theorem uD {env:Env} {F:Str×NameKind->List (Str×Addr)->Sem (ForInStep (List (Str×Addr)))}
  (hF:∀ n k r,(k=NameKind.free->∃ c,env.cells.lookup n=some c)->F (n,k) r=pure (ForInStep.yield (if (k==.free)=true then (match env.cells.lookup n with|some c=>(n,c)::r|none=>r) else r))) :
  ∀ (l:List (Str×NameKind)) (cs:List (Str×Addr)),(∀ x∈l,x.2=.free->∃ c,env.cells.lookup x.1=some c)->forIn l cs F=pure (oG env l cs)
 | [],cs,_=>rfl
 | (n,k)::l,cs,h=>by
  rw [List.forIn_cons,hF n k cs (h (n,k) List.mem_cons_self),pure_bind]
  exact uD hF l _ fun y hy=>h y (List.mem_cons_of_mem _ hy)
theorem fu {env:Env} (h:∀ x∈scope.names,x.2=.free->∃ c,env.cells.lookup x.1=some c):closureFor scope env=pure (oG env scope.names []):=by
 simp only [closureFor]
 rw [uD (env:=env) (fun n k r hk=>?_) scope.names [] h]
 ·rfl
 ·by_cases hf:(k==NameKind.free)=true
  ·obtain ⟨c,hc⟩:=hk (by simpa using hf)
   simp only [hf,if_true,cellOf,hc,pure_bind]
  ·simp only [hf,if_false]
   rfl
theorem qg {env:Env}:∀ (l:List (Str×NameKind)) (cs:List (Str×Addr)),(∀ x c,cs.lookup x=some c->env.cells.lookup x=some c)->∀ x c,(oG env l cs).lookup x=some c->env.cells.lookup x=some c
 | [],cs,h,x,c,e=>h x c e
 | (n,k)::l,cs,h,x,c,e=>by
  unfold oG at e
  refine qg l _ (fun y d ed=>?_) x c e
  split at ed
  ·split at ed
   ·rename_i c' hc'
    rw [List.lookup_cons] at ed
    split at ed
    ·rename_i q;rw [eq_of_beq q];rw [<- Option.some.inj ed];exact hc'
    ·exact h y d ed
   ·exact h y d ed
  ·exact h y d ed
theorem kY {env:Env}:∀ (l:List (Str×NameKind)) (cs:List (Str×Addr)) (x:Str),((∃ c,cs.lookup x=some c)\/((x,NameKind.free)∈l/\∃ c,env.cells.lookup x=some c))->∃ c,(oG env l cs).lookup x=some c
 | [],cs,x,h=>by
  rcases h with h|⟨h,_⟩
  ·exact h
  ·cases h
 | (n,k)::l,cs,x,h=>by
  unfold oG
  refine kY l _ x ?_
  rcases h with ⟨c,h⟩|⟨h,c,hc⟩
  ·left
   split
   ·split
    ·rename_i c' _
     rw [List.lookup_cons]
     split
     ·exact ⟨_,rfl⟩
     ·exact ⟨c,h⟩
    ·exact ⟨c,h⟩
   ·exact ⟨c,h⟩
  ·rcases List.mem_cons.mp h with e|h
   ·cases e
    left
    rw [if_pos (by rfl),hc]
    exact ⟨c,by simp [List.lookup_cons]⟩
   ·exact .inr ⟨h,c,hc⟩
noncomputable def bN (X:Cx) (N':List Str) (scope:Scope) (C:Addr) (K3:Shared) (K4:Hp) (fp:List Addr):Cx:=
 { X with N:=N',L8:=K3,K0:=K4,env:=compEnvC scope (oG X.env scope.names []) C X.env,outer:=X.stack,stack:=X.stack,ex:=fp,fn:=fun _=>false,pn:=[],xe:=fun _ _=>False }
def fN {α:Type}:R α->R α
 | .ok a=>.ok a
 | _=>.no
def kN (ix:List Nat) (Z:Ev):Ev:=none::ix.map fun (i:Nat)=>match Z[i]? with
 | some (some (.val d))=>some (.val d)
 | _=>none
def cf (n:Nat) (ix:List Nat) (Z:Ev):Ev:=List.replicate n none++ix.map fun (i:Nat)=>match Z[i]? with
 | some (some (.val d))=>some (.val d)
 | _=>none
noncomputable def fV (asg:D->Ev->R Ev) (gt:Ev->R Bool) (ge:Ev->R D):List D->Ev->R (List D)
 | [],_=>.ok []
 | d::ds,Z=>fN (asg d Z)>>=fun Z1=>fN (gt Z1)>>=fun k=>if k=true then fN (ge Z1)>>=fun x=>fV asg gt ge ds Z1>>=fun xs=>.ok (x::xs) else fV asg gt ge ds Z1
def jp (gt:Ev->R Bool) (ge:Ev->R D):List D->Ev->R (List D):=fV (jM 0) gt ge
theorem jQ {asg:D->Ev->R Ev} {gt:Ev->R Bool} {ge:Ev->R D}:∀ (ds:List D) (Z:Ev),(∃ xs,fV asg gt ge ds Z=.ok xs)\/fV asg gt ge ds Z=.no
 | [],Z=>.inl ⟨[],rfl⟩
 | d::ds,Z=>by
  unfold fV
  cases asg d Z with
  | ok Z1=>
   simp only [fN,R.ok_bind]
   cases gt Z1 with
   | ok k=>
    simp only [fN,R.ok_bind]
    cases k with
    | true=>
     simp only [if_true]
     cases ge Z1 with
     | ok x=>
      simp only [fN,R.ok_bind]
      rcases jQ (asg:=asg) ds Z1 with ⟨xs,e⟩|e
      ·rw [e];exact .inl ⟨_,rfl⟩
      ·rw [e];exact .inr rfl
     | ex C=>exact .inr rfl
     | no=>exact .inr rfl
    | false=>simp only [Bool.false_eq_true,if_false];exact jQ ds _
   | ex C=>exact .inr rfl
   | no=>exact .inr rfl
  | ex C=>exact .inr rfl
  | no=>exact .inr rfl
def kJ (gi:Ev->R (List D)) (ix:List Nat) (gt:Ev->R Bool) (ge:Ev->R D):Ev->R (List D):=fun Z=>gi Z>>=fun items=>jp gt ge items (kN ix Z)>>=fun ds=>if ds.length<=sizeLine then .ok ds else .no
def oi (n:Nat) (asg:D->Ev->R Ev) (gi:Ev->R (List D)) (ix:List Nat) (gt:Ev->R Bool) (ge:Ev->R D):Ev->R (List D):=fun Z=>gi Z>>=fun items=>fV asg gt ge items (cf n ix Z)>>=fun ds=>if ds.length<=sizeLine then .ok ds else .no
noncomputable def PTs (X:Cx) (ifs:List Expr) (gt:Ev->R Bool):Prop:=∀ (pins:List (Addr×Obj)) (s:Shared) (σ:St) (H:Hp) (Q:Bool->Hp->Prop),Inv X pins σ H s->tTF X gt σ H Q->
 wpAny (model X.prog X.w) X.A (forIn ifs true fun c r=>if r=true then do let ok <- isTrue c X.env (eval c X.env);pure (ForInStep.yield ok) else pure (ForInStep.yield r)) (TP X pins σ Q) X.xe s
theorem lG:PTs X [] (fun _=>.ok true):=by
 intro pins s σ H Q I h
 obtain ⟨G,Z,st,h⟩:=h
 exact wpAny_pure ⟨H,I,h true G H (.refl st.sub) rfl⟩
theorem Un.sameBut {fs ex:List Addr} {h1 h2:Heap} (u:Un fs ex H H' h h1) (k:∀ b o,b≠C->h1.get? b=some o->h2.get? b=some o) (hC:h.objs.size<=C):Un fs ex H H' h h2:=by
 have ne:∀ b o,h.get? b=some o->b≠C:=fun b o e=>Nat.ne_of_lt (Nat.lt_of_lt_of_le (Heap.lt_size e) hC)
 exact ⟨fun b o e n hb hx=>k b o (ne b o e) (u.keep b o e n hb hx),fun b o e n hb hx=>let ⟨sl,q⟩:=u.slot b o e n hb hx;⟨sl,k b _ (ne b o e) q⟩,u.free,fun b o e hx=>let ⟨o',q⟩:=u.there b o e hx;⟨o',k b o' (ne b o e) q⟩,u.tups,u.frzs,u.tbls⟩
theorem HOk.sameBut {w:World} (x:HOk P w H h) (k:∀ b o,b≠C->h.get? b=some o->h'.get? b=some o) (hC:H C=none):HOk P w H h':=fun a o e=>by
 refine (x a o e).stay (fun b u hb q=>k b u ?_ q) (fun _ z=>z) (fun _ _ z=>z)
 rcases hb with rfl|hb
 ·exact aO e hC
 ·exact aO hb hC
end L2
namespace L2
open PySem PySem.Spec PyProof.Rows
section
variable {X:Cx} {elt iter:Expr} {ifs:List Expr} {x:Str} {px pos:Pos} {scope:Scope} {N':List Str} {ix:List Nat} {gi:Ev->R (List D)} {gt:Ev->R Bool} {ge:Ev->R D}
structure CompOk (X:Cx) (scope:Scope) (x:Str) (N':List Str) (ix:List Nat):Prop where
 kind:scope.kind=.function
 cell:∀ y∈scope.names,y.2 ≠ .cell
 names:∀ y∈scope.names,y.2=.local->scope.names.lookup y.1=some .local
 loc:scope.names.lookup x=some .local
 fr:∀ y∈scope.names,y.2=.free->X.env.kindOf y.1=some .cell
 nd:N'.Nodup
 hd:N'[0]?=some x
 tl:N'.tail=ix.map fun (i:Nat)=>X.N.getD i Str.empty
 lt:∀ i∈ix,i<X.N.length
 fre:∀ y∈N'.tail,scope.names.lookup y=some .free/\(y,NameKind.free)∈scope.names
structure CompOkT (X:Cx) (scope:Scope) (n:Nat) (N':List Str) (ix:List Nat):Prop where
 kind:scope.kind=.function
 cell:∀ y∈scope.names,y.2 ≠ .cell
 names:∀ y∈scope.names,y.2=.local->scope.names.lookup y.1=some .local
 fr:∀ y∈scope.names,y.2=.free->X.env.kindOf y.1=some .cell
 le:n<=N'.length
 tl:N'.drop n=ix.map fun (i:Nat)=>X.N.getD i Str.empty
 lt:∀ i∈ix,i<X.N.length
 fre:∀ y∈N'.drop n,scope.names.lookup y=some .free/\(y,NameKind.free)∈scope.names
theorem CompOk.t (ok:CompOk X scope x N' ix):CompOkT X scope 1 N' ix:=
 ⟨ok.kind,ok.cell,ok.names,ok.fr,(List.getElem?_eq_some_iff.mp ok.hd).1,List.drop_one ▸ ok.tl,ok.lt,List.drop_one ▸ ok.fre⟩
theorem kF {env:Env} (hk:env.scope.kind=.function):∀ {names:List (Str×NameKind)} {x:Str},names.lookup x=some .free->env.kindOf x=some .cell->
  (names.map fun (n,k)=>if (k==NameKind.free && env.scope.kind==.function && env.kindOf n==some .cell) then (n,NameKind.cell) else (n,k)).lookup x=some .cell
 | [],_,h,_=>by simp at h
 | (n,k)::r,x,h,hc=>by
  have ih:=@kF env hk r x
  show List.lookup x ((if (k==NameKind.free && env.scope.kind==.function && env.kindOf n==some .cell)=true then (n,NameKind.cell) else (n,k))::_)=_
  cases hx:x==n with
  | true=>
   simp only [List.lookup_cons,hx] at h
   cases h
   have e:=eq_of_beq hx
   subst e
   rw [if_pos (by rw [hk,hc];rfl)]
   simp [List.lookup_cons]
  | false=>
   simp only [List.lookup_cons,hx] at h
   by_cases hc':(k==NameKind.free && env.scope.kind==.function && env.kindOf n==some .cell)=true
   ·rw [if_pos hc'];simp only [List.lookup_cons,hx];exact ih h hc
   ·rw [if_neg hc'];simp only [List.lookup_cons,hx];exact ih h hc
theorem zr (h:(cf n ix Z)[j]?=some (some (.val d))):∃ k i,j=k+n/\ix[k]?=some i/\Z[i]?=some (some (.val d)):=by
 unfold cf at h
 by_cases hj:j<n
 ·rw [List.getElem?_append_left (by simpa using hj),List.getElem?_replicate,if_pos hj] at h;cases h
 ·rw [List.getElem?_append_right (by simpa using Nat.not_lt.1 hj),List.length_replicate,List.getElem?_map] at h
  cases e:ix[j - n]? with
  | none=>rw [e] at h;cases h
  | some i=>
   rw [e] at h
   refine ⟨j - n,i,by omega,e,?_⟩
   simp only [Option.map_some,Option.some.injEq] at h
   split at h
   ·rename_i d' e';cases h;exact e'
   ·cases h
def cu (n:Nat) (ix:List Nat) (σ:St):St:=List.replicate n none++ix.map fun (i:Nat)=>(σ[i]?).join
theorem jg:NoOwn (cf n ix Z):=fun j x h=>by
 unfold cf at h
 by_cases hj:j<n
 ·rw [List.getElem?_append_left (by simpa using hj),List.getElem?_replicate,if_pos hj] at h;cases h
 ·rw [List.getElem?_append_right (by simpa using Nat.not_lt.1 hj),List.length_replicate,List.getElem?_map] at h
  cases e:ix[j - n]? with
  | none=>rw [e] at h;cases h
  | some i=>
   rw [e] at h
   simp only [Option.map_some,Option.some.injEq] at h
   split at h
   ·cases h;exact ⟨_,rfl⟩
   ·cases h
theorem pH {K:PySem.W.Frag} (st:StE K G H σ Z) (n:Nat) (ix:List Nat):StE K G H (cu n ix σ) (cf n ix Z):=by
 refine ⟨st.sub,by simp [cf,cu],fun j d h=>?_,fun j m C p fs h=>absurd h (NoOwn.obj jg j m C p fs)⟩
 obtain ⟨k,i,rfl,e1,e2⟩:=zr h
 obtain ⟨v,h1,h2⟩:=st.val i d e2
 refine ⟨v,?_,h2⟩
 unfold cu
 rw [List.getElem?_append_right (by simp),List.length_replicate,Nat.add_sub_cancel,List.getElem?_map,e1]
 simp [h1]
theorem AM {K8:Heap} {tk:Nat} {m:Str->Option Value} (ok:CompOkT X scope n N' ix) (hcalm:X.calm=true) (I:Inv X pins σ H s) (hf:∀ b∈fp,yV X pins H b) (hfl:∀ b∈fp,b<s.heap.objs.size)
 (hC:s.heap.objs.size<=C) (hn:K8.Ns C m) (old:∀ b o,s.heap.get? b=some o->K8.get? b=some o) (un:Un (frs X.stack) fp H H' s.heap K8) (hok:HOk X.prog X.w H' K8) (hfC:H' C=none) (hfc:∀ c:Addr,c<s.heap.objs.size->H c=none->H' c=none) :
  Inv (bN X N' scope C s H fp) [] (cu n ix σ) H' { s with heap:=K8,toks:=tk }:=by
 have cl:∀ y c,(oG X.env scope.names []).lookup y=some c->X.env.cells.lookup y=some c:=qg scope.names [] (fun y c h=>by simp at h)
 have nlt:N'.length=n+ix.length:=by
  have h1:=congrArg List.length ok.tl
  rw [List.length_drop,List.length_map] at h1
  have:=ok.le
  omega
 refine ⟨⟨I.ok.mod,by show (relabel scope X.env).kind=_;exact ok.kind,I.ok.glob,I.ok.blt,hC,?_,?_,?_,I.ok.hd,I.ok.frames,.inl rfl,?_,I.bs,Nat.le_trans I.ok.bsz I.sz,?_,?_,I.stack,I.stkFree,I.ok.tabs.un I.base⟩,rfl,I.bare,un,?_,?_,hfC,?_,?_,hok,?_⟩
 ·intro y z c h1 h2
  exact I.ok.inj y z c (cl y c h1) (cl z c h2)
 ·intro y hy
  have h1:(y,NameKind.free)∈scope.names:=by
   have hy':(relabel scope X.env).names.lookup y=some .cell\/(relabel scope X.env).names.lookup y=some .free:=hy
   have mem:∀ k,(relabel scope X.env).names.lookup y=some k->(k=.cell\/k=.free)->(y,NameKind.free)∈scope.names:=fun k e hk=>by
    have hm:=PySem.mem_of_lookup e
    obtain ⟨⟨n,k'⟩,hm1,hm2⟩:=List.mem_map.mp hm
    dsimp only at hm2
    split at hm2
    ·rename_i hc
     cases hm2
     have:k'=.free:=by
      have:=(Bool.and_eq_true _ _ ▸ (Bool.and_eq_true _ _ ▸ hc).1).1
      simpa using this
     rw [<- this];exact hm1
    ·cases hm2
     rcases hk with rfl|rfl
     ·exact absurd rfl (ok.cell _ hm1)
     ·exact hm1
   rcases hy' with h|h
   ·exact mem _ h (.inl rfl)
   ·exact mem _ h (.inr rfl)
  have hc:=I.ok.has y (.inl (ok.fr _ h1 rfl))
  exact kY scope.names [] y (.inr ⟨h1,hc⟩)
 ·intro y c hfn;cases hfn
 ·intro b hb
  obtain ⟨f0,f1,f2,f3,f4,f5⟩:=hf b hb
  exact ⟨fun z=>absurd (hfl b hb) (by rw [z];exact Nat.not_lt.mpr hC),fun y c h=>f4 y c (cl y c h)⟩
 ·intro b o e hb
  obtain ⟨f0,f1,f2,f3,f4,f5⟩:=hf b hb
  rcases f3 with f3|f3
  ·exact I.ok.noex b o e f3
  ·exact absurd (Heap.lt_size (I.ok.bs b o e).1) (Nat.not_lt.mpr f3)
 ·intro b hb hb'
  obtain ⟨f0,f1,f2,f3,f4,f5⟩:=hf b hb
  rcases List.mem_cons.mp (I.stkSub b hb') with e|e
  ·exact f1 e
  ·exact f2 e
 ·refine ⟨m,hn,fun i y v h1 h2 h3=>?_⟩
  have h1:N'[i]?=some y:=h1
  have h2:(cu n ix σ)[i]?=some (some v):=h2
  by_cases hi:i<n
  ·unfold cu at h2
   rw [List.getElem?_append_left (by simpa using hi),List.getElem?_replicate,if_pos hi] at h2;cases h2
  ·unfold cu at h2
   rw [List.getElem?_append_right (by simpa using Nat.not_lt.1 hi),List.length_replicate,List.getElem?_map] at h2
   cases e:ix[i - n]? with
   | none=>rw [e] at h2;cases h2
   | some i0=>
    rw [e] at h2
    have h2':σ[i0]?=some (some v):=by
     cases q:σ[i0]? with
     | none=>rw [Option.map_some,q] at h2;cases h2
     | some z=>rw [Option.map_some,q] at h2;have:=Option.some.inj h2;rw [<- this];rfl
    have ht:(N'.drop n)[i - n]?=some y:=by rw [List.getElem?_drop,Nat.add_sub_cancel' (Nat.not_lt.1 hi)];exact h1
    have hy:X.N[i0]?=some y:=by
     have ht2:=ht
     rw [ok.tl,List.getElem?_map,e] at ht2
     have hl:=ok.lt i0 (List.mem_of_getElem? e)
     have q:=Option.some.inj ht2
     rw [List.getElem?_eq_getElem hl]
     rw [<- q]
     show some X.N[i0]=some (X.N.getD i0 Str.empty)
     rw [List.getD_eq_getElem?_getD,List.getElem?_eq_getElem hl]
     rfl
    obtain ⟨fr1,fr2⟩:=ok.fre y (List.mem_of_getElem? ht)
    have kc:=ok.fr _ fr2 rfl
    obtain ⟨m0,hn0,hl⟩:=I.loc
    obtain ⟨u,ru,lk⟩:=hl i0 y v hy h2' (.inr (.inl kc))
    refine ⟨u,ru,.inr ⟨.inl (kF I.ok.kind fr1 kc),?_⟩⟩
    rcases lk with ⟨z,_⟩|⟨_,c,hc,hcell⟩
    ·rw [kc] at z;cases z
    ·obtain ⟨c',hc'⟩:=kY scope.names [] y (.inr ⟨fr2,c,hc⟩)
     have:=cl y c' hc'
     rw [hc] at this
     cases this
     exact ⟨c,hc',hcell.keeps old⟩
 ·intro y c h
  obtain ⟨v,q⟩:=I.cell y c (cl y c h)
  exact ⟨v,q.keeps old⟩
 ·intro y c h
  obtain ⟨v,q⟩:=I.cell y c (cl y c h)
  exact hfc c q.lt (I.freeC y c (cl y c h))
 ·intro p hp
  exact absurd (show p∈([]:List (Addr×Obj)) from hp) (by simp)
 ·show (cu n ix σ).length=N'.length
  rw [nlt];simp [cu]
theorem vZ {prog:Program} {w:World} {A:Around} {R':Result->Shared->Prop} {elt target:Expr} {ifs:List Expr} {it acc:Value} {env:Env} (I:Nat->Shared->Prop)
 (turn:∀ n s,I n s->wpAny (model prog w) A (pyNext it) (fun r K2=>match r with
 | none=>R' (.ok .next) K2
 | some v=>wpAny (model prog w) A (letOwnedTupleGo target it v) (fun _ N7=>wpAny (model prog w) A (assign target env v) (fun _ K3=>
 wpAny (model prog w) A (forIn ifs true fun c r=>if r=true then do let ok <- isTrue c env (eval c env);pure (ForInStep.yield ok) else pure (ForInStep.yield r)) (fun ok K9=>
 if ok=true then wpAny (model prog w) A (eval elt env) (fun x M6=>
 wpAny (model prog w) A (call (.builtin "list.append") [acc,x]) (fun _ N8=>∃ m,m<n/\I m N8) (fun _ _=>False) M6) (fun _ _=>False) K9
 else ∃ m,m<n/\I m K9) (fun _ _=>False) K3) (fun _ _=>False) N7) (fun _ _=>False) K2) (fun _ _=>False) s)
 (n:Nat) (h:I n s) :
  codeAny (model prog w) A (.compLoop (.ListComp elt [⟨target,iter,ifs,0⟩] scope pos) 0 it acc env) R' s:=by
 refine codeAny_loop rfl I (fun n s hI=>?_) n h
 show wpAny _ A ((compTurn (.ListComp elt [⟨target,iter,ifs,0⟩] scope pos) 0 it acc env).onRaise (fun x=>do noteFrame x env;theTreesLotGoes x)) _ _ s
 refine wpAny_noted ?_
 rw [compTurn_list]
 refine wpAny_bind (wpAny_standAt (wpAny_bind (wpAny_mono (turn n s hI) (fun r K2 K8=>?_) fun _ _ z=>z.elim)))
 cases r with
 | none=>exact wpAny_pure K8
 | some v=>
  refine wpAny_bind (wpAny_mono K8 (fun _ N7 O4=>?_) fun _ _ z=>z.elim)
  refine wpAny_bind (wpAny_mono O4 (fun _ K3 O5=>wpAny_bind (wpAny_mono O5 (fun ok K9 N9=>?_) fun _ _ z=>z.elim)) fun _ _ z=>z.elim)
  cases ok with
  | false=>exact wpAny_pure ⟨rfl,N9⟩
  | true=>
   exact wpAny_bind (wpAny_bind (wpAny_mono N9 (fun x M6 h₄=>wpAny_bind (wpAny_mono h₄ (fun _ N8 M8=>wpAny_pure (wpAny_pure ⟨rfl,M8⟩)) fun _ _ z=>z.elim)) fun _ _ z=>z.elim))
theorem vk:∀ d Z Z',jM i d Z=.ok Z'->NoOwn Z->NoOwn Z':=by
 intro d Z Z' e h j x q
 have e':Z.set i (some (.val d))=Z':=R.ok.inj e
 rw [<- e',List.getElem?_set] at q
 split at q
 ·split at q
  ·cases q;exact ⟨d,rfl⟩
  ·cases q
 ·exact h j x q
theorem iS {tn : Nat -> Heap -> Prop} {J : It} {items : List D} {Q : VK} {RR : Value -> Addr -> Result -> Shared -> Prop} {E : Value -> Shared -> Prop} (ok : CompOkT X scope n N' ix) (hcalm : X.calm = true) (hg : ∀ C K3 K4 fp, PGF (bN X N' scope C K3 K4 fp) tgt asg) (hown : ∀ d Z Z', asg d Z = .ok Z' -> (NoOwn Z) -> NoOwn Z')
 (he : ∀ C K3 K4 fp, QF (bN X N' scope C K3 K4 fp) elt ge) (ht : ∀ C K3 K4 fp, PTs (bN X N' scope C K3 K4 fp) ifs gt)
 (I : Inv X pins σ H s) (T : Turn X.prog X.w X.K tgt J fp it tn) (st0 : tn 0 s.heap) (hf : ∀ b ∈ fp, yV X pins H b) (st : StE X.K G H σ Z) (hi : ItOk X.K G J items)
 (h : (fV asg gt ge items (cf n ix Z) >>= fun ds => if ds.length <= sizeLine then R.ok ds else .no).post (xy X.K G H Q) (Exx X σ G H))
 (hR : ∀ (Dd C : Addr) (s' : Shared) (m : Str -> Option Value) (vs : List V) (G' H' : Hp), Up G H G' H' -> H' Dd = none -> C ≠ Dd -> (∀ ds, Reps X.K G' vs ds -> True) -> Q (.ref Dd) (upd H' Dd (.lst vs)) -> s'.heap.Ns C m -> s'.os = s.os -> AllBare s'.gens -> H' C = none -> s.heap.objs.size <= C ->
 Un (frs X.stack) fp H (upd H' Dd (.lst vs)) s.heap s'.heap -> HOk X.prog X.w (upd H' Dd (.lst vs)) s'.heap -> RR (.ref Dd) C (.ok .next) s') :
    wpAny (model X.prog X.w) X.A (newList []) (fun acc K9 => wpAny (model X.prog X.w) X.A (newFunctionEnv scope X.env.globals (oG X.env scope.names []) [] X.env.qual none .none (some X.env)) (fun cenv M6 =>
      codeAny (model X.prog X.w) X.A (.compStart (.ListComp elt [⟨tgt, iter, ifs, 0⟩] scope pos) 0 (.ref it) acc { cenv with scope := relabel scope X.env }) (RR acc cenv.locals) M6) E K9) E s := by
  have hfl : ∀ b ∈ fp, b < s.heap.objs.size := fun b hb => let ⟨o, e, _⟩ := T.obj 0 s.heap st0 b hb; Heap.lt_size e
  refine wpAny_newObj_type (wpAny_newFunctionEnv ok.cell (by intro y hy; simp at hy) (fun K8 M9 M7 => ?_) ok.kind)
  dsimp only at M9 M7 ⊢
  generalize hH2 : s.heap.push { cls := .type "list", dict := none, data := .seq ([] : List Value).toArray } = Hq at M9 M7 ⊢
  have hC : Hq.objs.size = s.heap.objs.size + 1 := by rw [<- hH2, Heap.size_push]
  have hDC : s.heap.objs.size ≠ Hq.objs.size := by rw [hC]; exact Nat.ne_of_lt (Nat.lt_succ_self _)
  have hCle : s.heap.objs.size <= Hq.objs.size := by rw [hC]; exact Nat.le_succ _
  have old : ∀ b o, s.heap.get? b = some o -> K8.get? b = some o := fun b o e =>
    M7.extBut b o (by rw [hC]; exact Nat.ne_of_lt (Nat.lt_succ_of_lt (Heap.lt_size e))) (Heap.get?_push_of_some _ (hH2 ▸ Heap.get?_push_of_some _ e))
  have hacc : K8.get? s.heap.objs.size = some { cls := .type "list", data := .seq ([] : List Value).toArray } := M7.extBut _ _ hDC (Heap.get?_push_of_some _ (hH2 ▸ Heap.get?_push_size _ rfl))
  have hD0 : H s.heap.objs.size = none := I.fresh
  have hC0 : H Hq.objs.size = none := I.hok.fresh hCle
  have st0' : tn 0 K8 := T.keep 0 _ _ st0 fun b hb o e => old b o e
  -- the block's state at its beginning
  have I0 : ∀ tk, Inv (bN X N' scope Hq.objs.size s H fp) [] (cu n ix σ) (upd H s.heap.objs.size (.lst [])) { s with heap := K8, toks := tk } := fun tk => by
    refine AM ok hcalm I hf hfl hCle M9 old (Un.laid old (Nat.le_refl _) hD0) (I.hok.laid old (Nat.le_refl _) ⟨Nat.zero_le _, [], 0, .nil, hacc⟩) (by rw [aL hDC.symm]; exact hC0) fun c hc e => ?_
    rw [aL (Nat.ne_of_lt hc)]; exact e
  have loop : ∀ tk, codeAny (model X.prog X.w) X.A (.compLoop (.ListComp elt [⟨tgt, iter, ifs, 0⟩] scope pos) 0 (.ref it) (.ref s.heap.objs.size) (compEnvC scope (oG X.env scope.names []) Hq.objs.size X.env))
      (RR (.ref s.heap.objs.size) Hq.objs.size) { s with heap := K8, toks := tk } := fun tk => by
    have fpk : ∀ {pins' : List (Addr × Obj)} {σ' : St} {H' : Hp} {s' : Shared}, Inv (bN X N' scope Hq.objs.size s H fp) pins' σ' H' s' -> pins' = [] -> (∀ b ∈ fp, H' b = none) -> ∀ b ∈ fp, yV (bN X N' scope Hq.objs.size s H fp) pins' H' b := fun I' e hn b hb =>
      ⟨hn b hb, (I'.ok.exf b hb).1, I'.ok.exfs b hb, .inl hb, (I'.ok.exf b hb).2, by subst e; intro p hp; exact absurd (show p ∈ ([] : List (Addr × Obj)) from hp) (by simp)⟩
    refine vZ (fun nn s' => ∃ (i : Nat) (σ' : St) (G' H' : Hp) (Z' : Ev) (vs : List V) (ys : List D), nn = items.length - i /\ i <= items.length /\ Inv (bN X N' scope Hq.objs.size s H fp) [] σ' H' s' /\ tn i s'.heap /\ (∀ b ∈ fp, H' b = none) /\
      H' s.heap.objs.size = some (.lst vs) /\ G' s.heap.objs.size = none /\ Up G H G' H' /\ StE X.K G' H' σ' Z' /\ (NoOwn Z') /\ Reps X.K G' vs ys /\
      (fV asg gt ge (items.drop i) Z' >>= fun zs => if (ys ++ zs).length <= sizeLine then R.ok (ys ++ zs) else .no).post (xy X.K G H Q) (Exx X σ G H)) ?_ items.length
      ⟨0, cu n ix σ, G, upd H s.heap.objs.size (.lst []), cf n ix Z, [], [], by simp, Nat.zero_le _, I0 tk, st0', fun b hb => by rw [aL (Nat.ne_of_lt (hfl b hb))]; exact (hf b hb).1, aX, st.sub.free hD0,
        ⟨fun a o e => by rw [aL (aO e (st.sub.free hD0))]; exact st.sub a o e, .refl _, .into hD0, fun _ _ e => .inl e⟩,
        ⟨fun a o e => by rw [aL (aO e (st.sub.free hD0))]; exact st.sub a o e, (pH st n ix).len, (pH st n ix).val, fun j m C p fs h => absurd h (NoOwn.obj jg j m C p fs)⟩, jg, .nil, by simpa using h⟩
    rintro nn s' ⟨i, σ', G', H', Z', vs, ys, rfl, hil, I', tn', fr', hD', gD', up', st', no', rp', h'⟩
    have hIt := hi i G' H' up'.gg st'.sub
    by_cases hlt : i < items.length
    · -- a turn
      have hd : items.drop i = items[i] :: items.drop (i + 1) := List.drop_eq_getElem_cons hlt
      rw [hd] at h'
      obtain ⟨go, yl⟩ := hIt.1 items[i] (by simp [hlt])
      refine wpAny_mono (T.item (bN X N' scope Hq.objs.size s H fp) rfl rfl rfl hcalm i [] s' σ' H' (fun _ _ => False) I' (fpk I' rfl fr') tn' go) (fun r s1 ⟨u, hr, h1⟩ => ?_) fun _ _ z => z
      subst hr
      refine wpAny_mono h1 (fun _ s2 ⟨x2, H2, I2, r2, y2, tn2, fr2⟩ => ?_) fun _ _ z => z
      obtain ⟨G2, up2, rep2⟩ := yl x2 H2 y2
      have I2p := I2.pinned (fpk I2 rfl fr2) (T.obj _ _ tn2)
      have st2 : StE X.K G2 H2 σ' Z' := st'.up up2
      have sr2 : StR X.K G2 H2 G2 H2 σ' Z' := ⟨st2, up2.sub, .refl up2.sub, fun j ds e => absurd e (no'.own j ds), fun j k ds es l e => absurd e (no'.own j ds), no'.ob⟩
      have ea : ∃ Z1, asg items[i] Z' = .ok Z1 := by
        unfold fV at h'
        cases q : asg items[i] Z' with
        | ok k => exact ⟨k, rfl⟩
        | _ => rw [q] at h'; exact h'.elim
      obtain ⟨Z1, ea⟩ := ea
      unfold fV at h'
      rw [ea] at h'
      simp only [fN, R.ok_bind] at h'
      refine wpAny_mono (hg Hq.objs.size s H fp _ s2 σ' H2 x2 u (fun σ3 H3 => H3 = H2 /\ StR X.K G2 H2 G2 H2 σ3 Z1) I2p r2
        ⟨G2, H2, G2, Z', items[i], _, sr2, rep2, ea, fun σ3 q => ⟨rfl, q⟩⟩) (fun _ s3 ⟨σ3, H3, I3, e3, sr3⟩ => ?_) fun _ _ z => z
      subst e3
      have no3 := hown _ _ _ ea no'
      have hD2 : H3 s.heap.objs.size = some (.lst vs) := up2.hh _ _ hD'
      have gD2 : G2 s.heap.objs.size = none := by
        cases q : G2 s.heap.objs.size with
        | none => rfl
        | some o =>
          rcases up2.fr _ _ q with z | z
          · rw [gD'] at z; cases z
          · rw [hD'] at z; cases z
      -- the tests
      have ek : ∃ k, gt Z1 = .ok k := by
        cases q : gt Z1 with
        | ok k => exact ⟨k, rfl⟩
        | _ => rw [q] at h'; exact h'.elim
      obtain ⟨k, ek⟩ := ek
      rw [ek] at h'
      simp only [fN, R.ok_bind] at h'
      refine wpAny_mono (ht Hq.objs.size s H fp _ s3 σ3 H3 (fun b H4 => b = k /\ ∃ G4, Up G2 H3 G4 H4) I3 ⟨G2, _, sr3.e, by rw [ek]; exact fun b G4 H4 u4 e4 => ⟨e4, G4, u4⟩⟩) (fun b s4 ⟨H4, I4, eb, G4, up4⟩ => ?_) fun _ _ z => z
      subst eb
      have next : ∀ {H7 : Hp} {s7 : Shared} {G7 : Hp} {vs7 : List V} {ys7 : List D}, Inv (bN X N' scope Hq.objs.size s H fp) ([] ++ rk fp s2.heap) σ3 H7 s7 -> H7 s.heap.objs.size = some (.lst vs7) -> G7 s.heap.objs.size = none -> Up G H G7 H7 -> StE X.K G7 H7 σ3 Z1 -> Reps X.K G7 vs7 ys7 ->
          (fV asg gt ge (items.drop (i + 1)) Z1 >>= fun zs => if (ys7 ++ zs).length <= sizeLine then R.ok (ys7 ++ zs) else .no).post (xy X.K G H Q) (Exx X σ G H) ->
          ∃ m, m < items.length - i /\ ∃ (i : Nat) (σ' : St) (G' H' : Hp) (Z' : Ev) (vs : List V) (ys : List D), m = items.length - i /\ i <= items.length /\ Inv (bN X N' scope Hq.objs.size s H fp) [] σ' H' s7 /\ tn i s7.heap /\ (∀ b ∈ fp, H' b = none) /\
            H' s.heap.objs.size = some (.lst vs) /\ G' s.heap.objs.size = none /\ Up G H G' H' /\ StE X.K G' H' σ' Z' /\ (NoOwn Z') /\ Reps X.K G' vs ys /\
            (fV asg gt ge (items.drop i) Z' >>= fun zs => if (ys ++ zs).length <= sizeLine then R.ok (ys ++ zs) else .no).post (xy X.K G H Q) (Exx X σ G H) := fun {H7 s7 G7 vs7 ys7} I7 hD7 gD7 up7 st7 rp7 h7 => by
        have pin : ∀ b ∈ fp, ∀ o, s2.heap.get? b = some o -> s7.heap.get? b = some o /\ H7 b = none := fun b hb o e => by
          have := I7.pin (b, o) (List.mem_append_right _ (List.mem_append_right _ (jU hb e)))
          exact ⟨this.1, this.2.1⟩
        refine ⟨items.length - (i + 1), by omega, i + 1, σ3, G7, H7, _, vs7, ys7, rfl, hlt, I7.unpinned, T.keep _ _ _ tn2 fun b hb o e => (pin b hb o e).1, fun b hb => ?_, hD7, gD7, up7, st7, no3, rp7, h7⟩
        obtain ⟨o, e, _⟩ := T.obj _ _ tn2 b hb
        exact (pin b hb o e).2
      have hD4 : H4 s.heap.objs.size = some (.lst vs) := up4.hh _ _ hD2
      have gD4 : G4 s.heap.objs.size = none := by
        cases q : G4 s.heap.objs.size with
        | none => rfl
        | some o =>
          rcases up4.fr _ _ q with z | z
          · rw [gD2] at z; cases z
          · rw [hD2] at z; cases z
      cases b with
      | false =>
        simp only [Bool.false_eq_true, if_false] at h' ⊢
        exact next I4 hD4 gD4 ((up'.trans up2).trans up4) (sr3.e.up up4) ((rp'.mono up2.gg).mono up4.gg) h'
      | true =>
        simp only [if_true] at h' ⊢
        have ex : ∃ y, ge Z1 = .ok y := by
          cases q : ge Z1 with
          | ok y => exact ⟨y, rfl⟩
          | _ => rw [q] at h'; exact h'.elim
        obtain ⟨y, ey⟩ := ex
        rw [ey] at h'
        simp only [fN, R.ok_bind] at h'
        refine wpAny_mono (he Hq.objs.size s H fp _ s4 σ3 H4 (fun v H5 => ∃ G5, Up G4 H4 G5 H5 /\ Rep X.K G5 v y) I4 ⟨G4, _, sr3.e.up up4, by rw [ey]; exact fun v G5 H5 u5 r5 => ⟨G5, u5, r5⟩⟩) (fun u5 s5 ⟨v5, H5, I5, r5, G5, up5, rep5⟩ => ?_) fun _ _ z => z
        have hD5 : H5 s.heap.objs.size = some (.lst vs) := up5.hh _ _ hD4
        have gD5 : G5 s.heap.objs.size = none := by
          cases q : G5 s.heap.objs.size with
          | none => rfl
          | some o =>
            rcases up5.fr _ _ q with z | z
            · rw [gD4] at z; cases z
            · rw [hD4] at z; cases z
        have ups := ((up'.trans up2).trans up4).trans up5
        rcases jQ (asg := asg) (gt := gt) (ge := ge) (items.drop (i + 1)) Z1 with ⟨zs, ez⟩ | ez
        · rw [ez] at h'
          simp only [R.ok_bind] at h'
          have hz : (ys ++ y :: zs).length <= sizeLine := by
            by_cases hz : (ys ++ y :: zs).length <= sizeLine
            · exact hz
            · rw [if_neg hz] at h'; exact h'.elim
          have hvl : vs.length < sizeLine := by
            rw [rp'.length]
            rw [List.length_append, List.length_cons] at hz
            omega
          refine wpAny_mono (nr (X := bN X N' scope Hq.objs.size s H fp) _ s5 σ3 H5 (.ref s.heap.objs.size) [v5] (.ref s.heap.objs.size) [u5] (fun _ H6 => H6 = upd H5 s.heap.objs.size (.lst (vs ++ [v5]))) I5 rfl (.cons r5 .nil)
            ⟨_, vs, v5, rfl, rfl, hD5, hvl, rfl⟩) (fun _ s6 ⟨_, H6, I6, _, e6⟩ => ?_) fun _ _ z => z
          subst e6
          have sub6 : Same G5 (upd H5 s.heap.objs.size (.lst (vs ++ [v5]))) := fun a o e => by rw [aL (aO e gD5)]; exact up5.sub a o e
          refine next I6 aX gD5 ⟨sub6, ups.gg, fun a o e => ?_, ups.fr⟩ ?_ (ys7 := ys ++ [y]) ((((rp'.mono up2.gg).mono up4.gg).mono up5.gg).append (.cons rep5 .nil)) ?_
          · rw [aL (aO e hD0)]; exact ups.hh a o e
          · exact ⟨sub6, ((sr3.e.up up4).up up5).len, ((sr3.e.up up4).up up5).val, fun j m C p fs h => absurd h (no3.obj j m C p fs)⟩
          · rw [ez]
            simp only [R.ok_bind, List.append_assoc, List.singleton_append]
            exact h'
        · rw [ez] at h'; exact h'.elim
    · -- the end
      have hie : i = items.length := by omega
      subst hie
      rw [List.drop_length] at h'
      unfold fV at h'
      simp only [R.ok_bind, List.append_nil] at h'
      refine wpAny_mono (T.done (bN X N' scope Hq.objs.size s H fp) rfl rfl rfl hcalm items.length [] s' σ' H' (fun _ _ => False) I' (fpk I' rfl fr') tn' (hIt.2 (Nat.le_refl _))) (fun r s1 ⟨hr, I1⟩ => ?_) fun _ _ z => z
      subst hr
      have hz : ys.length <= sizeLine := by
        by_cases hz : ys.length <= sizeLine
        · exact hz
        · rw [if_neg hz] at h'; exact h'.elim
      rw [if_pos hz] at h'
      have eH : upd (fun a => if a = s.heap.objs.size then none else H' a) s.heap.objs.size (.lst vs) = H' := by
        funext a
        unfold upd
        by_cases e : a = s.heap.objs.size
        · subst e; rw [if_pos rfl]; exact hD'.symm
        · rw [if_neg e]
          show (if a = s.heap.objs.size then none else H' a) = _
          rw [if_neg e]
      have hn : (fun a => if a = s.heap.objs.size then none else H' a) s.heap.objs.size = none := by simp
      have upn : Up G H G' (fun a => if a = s.heap.objs.size then none else H' a) := by
        refine ⟨fun a o e => ?_, up'.gg, fun a o e => ?_, up'.fr⟩
        · have : a ≠ s.heap.objs.size := aO e gD'
          simp only [this, if_false]; exact up'.sub a o e
        · have : a ≠ s.heap.objs.size := aO e hD0
          simp only [this, if_false]; exact up'.hh a o e
      obtain ⟨m1, hm1, _⟩ := I1.loc
      refine hR s.heap.objs.size Hq.objs.size s1 m1 vs G' _ upn hn hDC.symm (fun _ _ => trivial) (h' _ vs G' _ upn hn rp') hm1 I1.os I1.bare ?_ hCle (by rw [eH]; exact I1.base) (by rw [eH]; exact I1.hok)
      have := I1.free
      show (if Hq.objs.size = s.heap.objs.size then none else H' Hq.objs.size) = none
      rw [if_neg hDC.symm]; exact this
  exact codeAny_compStart_list (loop _) (T.self X.A 0 _ _ _ st0' (loop _))

theorem sf {tn:Nat->Heap->Prop} {J:It} {items:List D} {Q:VK} {RR:Value->Addr->Result->Shared->Prop} {E:Value->Shared->Prop} (ok:CompOk X scope x N' ix) (hcalm:X.calm=true)
 (he:∀ C K3 K4 fp,QF (bN X N' scope C K3 K4 fp) elt ge) (ht:∀ C K3 K4 fp,PTs (bN X N' scope C K3 K4 fp) ifs gt)
 (I:Inv X pins σ H s) (T:Turn X.prog X.w X.K (.Name x px) J fp it tn) (st0:tn 0 s.heap) (hf:∀ b∈fp,yV X pins H b) (st:StE X.K G H σ Z) (hi:ItOk X.K G J items)
 (h:(jp gt ge items (kN ix Z)>>=fun ds=>if ds.length<=sizeLine then R.ok ds else .no).post (xy X.K G H Q) (Exx X σ G H))
 (hR:∀ (Dd C:Addr) (s':Shared) (m:Str->Option Value) (vs:List V) (G' H':Hp),Up G H G' H'->H' Dd=none->C≠Dd->(∀ ds,Reps X.K G' vs ds->True)->Q (.ref Dd) (upd H' Dd (.lst vs))->s'.heap.Ns C m->s'.os=s.os->AllBare s'.gens->H' C=none->s.heap.objs.size<=C->
 Un (frs X.stack) fp H (upd H' Dd (.lst vs)) s.heap s'.heap->HOk X.prog X.w (upd H' Dd (.lst vs)) s'.heap->RR (.ref Dd) C (.ok .next) s') :
  wpAny (model X.prog X.w) X.A (newList []) (fun acc K9=>wpAny (model X.prog X.w) X.A (newFunctionEnv scope X.env.globals (oG X.env scope.names []) [] X.env.qual none .none (some X.env)) (fun cenv M6=>
   codeAny (model X.prog X.w) X.A (.compStart (.ListComp elt [⟨.Name x px,iter,ifs,0⟩] scope pos) 0 (.ref it) acc { cenv with scope:=relabel scope X.env }) (RR acc cenv.locals) M6) E K9) E s:=
 iS (n:=1) (asg:=jM 0) ok.t hcalm (fun C K3 K4 fp=>dM (X:=bN X N' scope C K3 K4 fp) (pos:=px) 0 ok.nd ok.hd (.inl (lookup_relabel_local ok.loc)) (.inr (lookup_relabel_local ok.loc))) vk he ht I T st0 hf st hi h hR
end
end L2
namespace L2
open PySem PySem.Spec PyProof.Rows
inductive O where
 | nx (Z:Ev)|rt (d:D)|re (d:D) (Z:Ev)|bk (Z:Ev)|ct (Z:Ev)|ex (C:Addr) (Z:Ev)|no
noncomputable def FlyS (X:Cx) (K1 K0:Hp) (Z:Ev) (C:Addr) (e:Value) (s':Shared):Prop:=∃ σ K6 pins K2 a,e=.ref a/\Inv X pins σ K6 K2/\
 ((∃ K5 h' vs,StR X.K K1 K0 K5 K6 σ Z/\Heap.MadeExcOf K2.heap h' a (.ref C) vs/\s'={ K2 with heap:=h' })\/(∃ G' H',Cc X.prog X.w X.stack K6 K2 a C H' s'/\StR X.K K1 K0 G' H' σ Z)\/
  ∃ G' H' L,X.env.frame=some L/\Be X pins L K6 K2 a C H' s'/\StR X.K K1 K0 G' H' σ Z)
theorem FlyS.of {K0 K5 K6:Hp} {e:Value} (sr:StR X.K K1 K0 K5 K6 σ Z) (f:IE X σ K5 K6 C e s'):FlyS X K1 K0 Z C e s':=by
 obtain ⟨pins,K2,a,e,I,way⟩:=f
 refine ⟨σ,K6,pins,K2,a,e,I,?_⟩
 rcases way with ⟨h',vs,m,z⟩|⟨G',H',fl,u⟩|⟨G',H',L,hL,fl,u⟩
 ·exact .inl ⟨K5,h',vs,sr,m,z⟩
 ·exact .inr (.inl ⟨G',H',fl,sr.ups u⟩)
 ·exact .inr (.inr ⟨G',H',L,hL,fl,sr.ups u⟩)
theorem FlyS.map {A B A' B':Hp} {Z':Ev} {e:Value} (f:FlyS X A B Z C e s') (h:∀ σ G H,StR X.K A B G H σ Z->StR X.K A' B' G H σ Z'):FlyS X A' B' Z' C e s':=by
 obtain ⟨σ,K6,pins,K2,a,e,I,way⟩:=f
 refine ⟨σ,K6,pins,K2,a,e,I,?_⟩
 rcases way with ⟨K5,h',vs,sr,m,z⟩|⟨G',H',fl,sr⟩|⟨G',H',L,hL,fl,sr⟩
 ·exact .inl ⟨K5,h',vs,h _ _ _ sr,m,z⟩
 ·exact .inr (.inl ⟨G',H',fl,h _ _ _ sr⟩)
 ·exact .inr (.inr ⟨G',H',L,hL,fl,h _ _ _ sr⟩)
noncomputable def ke (X:Cx) (K1 K0:Hp) (D:Ends) (o:O):Prop:=match o with
 | .nx Z=>∀ σ G H,StR X.K K1 K0 G H σ Z->D.nx σ H
 | .rt d=>∀ v G H,Up K1 K0 G H->Rep X.K G v d->D.rt v H
 | .re d Z=>∀ v σ G H,StR X.K K1 K0 G H σ Z->Rep X.K G v d->D.rt v H
 | .bk Z=>∀ σ G H,StR X.K K1 K0 G H σ Z->D.bk σ H
 | .ct Z=>∀ σ G H,StR X.K K1 K0 G H σ Z->D.ct σ H
 | .ex C Z=>∀ e s',FlyS X K1 K0 Z C e s'->X.xe e s'
 | .no=>False
def tS (X:Cx) (K1 K0:Hp) (g:Ev->O):TS:=fun D σ H=>∃ G Z,StR X.K K1 K0 G H σ Z/\ke X K1 K0 D (g Z)
def QSF (X:Cx) (st:Stmt) (g:Ev->O):Prop:=∀ K1 K0,PS X st (tS X K1 K0 g)
def zF (X:Cx) (st:List Stmt) (g:Ev->O):Prop:=∀ K1 K0,PSs X st (tS X K1 K0 g)
def R.out {α:Type} (m:R α) (Z:Ev) (k:α->O):O:=match m with
 | .ok a=>k a
 | .ex C=>.ex C Z
 | .no=>.no
def O.seq (o:O) (k:Ev->O):O:=match o with
 | .nx Z=>k Z
 | o=>o
section
variable {X:Cx} {st:Stmt} {cV body a b:List Stmt} {e c tg:Expr} {g g1 g2:Ev->O} {ga:Ev->R D} {gt:Ev->R Bool} {gl:Ev->R (List D)} {pos:Pos}
theorem Exx.of {K0:Hp} {D:Ends} (sr:StR X.K K1 K0 G H σ Z) (h:ke X K1 K0 D (.ex C Z)):Exx X σ G H C:=fun e s' ⟨G1,H1,u,f⟩=>h e s' (.of (sr.ups u) f)
theorem ua:zF X [] (fun Z=>.nx Z):=fun K1 K0 pins s σ H D I h=>by
 obtain ⟨G,Z,sr,h⟩:=h
 try dsimp only at h
 exact BP pins s σ H D I (h σ G H sr)
theorem qL (h1:QSF X st g1) (h2:zF X cV g2):zF X (st::cV) (fun Z=>(g1 Z).seq g2):=fun K1 K0 pins s σ H D I h=>by
 refine gQ (h1 K1 K0) (h2 K1 K0) pins s σ H D I ?_
 obtain ⟨G,Z,sr,h⟩:=h
 try dsimp only at h
 refine ⟨G,Z,sr,?_⟩
 cases q:g1 Z with
 | nx Z'=>rw [q] at h;exact fun σ' G' H' sr'=>⟨G',Z',sr',h⟩
 | rt d=>rw [q] at h;exact h
 | re d Z'=>rw [q] at h;exact h
 | bk Z'=>rw [q] at h;exact h
 | ct Z'=>rw [q] at h;exact h
 | ex C Z'=>rw [q] at h;exact h
 | no=>rw [q] at h;exact h
theorem wO (he:QF X e ga):QSF X (.Return (some e) pos) (fun Z=>(ga Z).out Z .rt):=fun K1 K0 pins s σ H D I h=>by
 refine oJ he pins s σ H D I ?_
 obtain ⟨G,Z,sr,h⟩:=h
 try dsimp only at h
 refine ⟨G,Z,sr.e,?_⟩
 cases q:ga Z with
 | ok d=>rw [q] at h;exact fun v G' H' u r=>h v G' H' (sr.up.trans u) r
 | ex C=>rw [q] at h;exact Exx.of sr h
 | no=>rw [q] at h;exact h
theorem ue (he:QF X e ga) (hs:swapsWith e none pos.line X.env=pure false:=by rfl):QSF X (.Expr e pos) (fun Z=>(ga Z).out Z fun _=>.nx Z):=fun K1 K0 pins s σ H D I h=>by
 refine iw he hs pins s σ H D I ?_
 obtain ⟨G,Z,sr,h⟩:=h
 try dsimp only at h
 refine ⟨G,Z,sr.e,?_⟩
 cases q:ga Z with
 | ok d=>rw [q] at h;exact fun v G' H' u r=>h σ G' H' (sr.ups u)
 | ex C=>rw [q] at h;exact Exx.of sr h
 | no=>rw [q] at h;exact h
theorem xm (hc:QB X c gt) (ha:zF X a g1) (hb:zF X b g2):QSF X (.If c a b pos) (fun Z=>(gt Z).out Z fun k=>if k=true then g1 Z else g2 Z):=fun K1 K0 pins s σ H D I h=>by
 refine Fg hc (ha K1 K0) (hb K1 K0) pins s σ H D I ?_
 obtain ⟨G,Z,sr,h⟩:=h
 try dsimp only at h
 refine ⟨G,Z,sr.e,?_⟩
 cases q:gt Z with
 | ok k=>
  rw [q] at h
  intro b' G' H' u r
  subst r
  cases b' with
  | true=>rw [if_pos rfl];exact ⟨G',Z,sr.ups u,by simpa [R.out] using h⟩
  | false=>rw [if_neg Bool.false_ne_true];exact ⟨G',Z,sr.ups u,by simpa [R.out] using h⟩
 | ex C=>rw [q] at h;exact Exx.of sr h
 | no=>rw [q] at h;exact h
theorem oH (he:QF X e ga) (hg:PGF X tg asg) (hs:swapsWithSole [tg] e pos.line X.env=pure false:=by rfl) (hw:swappedStores [tg] e X.env=pure none:=by rfl)
 (hn:∀ d Z C,asg d Z ≠ .ex C:=by intro _ _ _ z;cases z) (h1:(assignEach [tg] X.env).map (·.2)=[assign tg X.env]:=by rfl):QSF X (.Assign [tg] e pos) (fun Z=>(ga Z).out Z fun d=>(asg d Z).out Z .nx):=fun K1 K0 pins s σ H D I h=>by
 refine qB he hg hs hw h1 pins s σ H D I ?_
 obtain ⟨G,Z,sr,h⟩:=h
 try dsimp only at h
 refine ⟨G,Z,sr.e,?_⟩
 cases q:ga Z with
 | ok d=>
  rw [q] at h
  simp only [R.out] at h
  intro v G' H' u r
  cases q2:asg d Z with
  | ok Z'=>rw [q2] at h;exact ⟨K1,K0,G',Z,d,Z',sr.ups u,r,q2,fun σ' sr'=>h σ' G' H' sr'⟩
  | ex C=>exact absurd q2 (hn d Z C)
  | no=>rw [q2] at h;exact h.elim
 | ex C=>rw [q] at h;exact Exx.of sr h
 | no=>rw [q] at h;exact h
theorem wj (i:Nat) (hN:X.N.Nodup) (he:QF X e ga) (hi:X.N[i]?=some x:=by rfl) (hx:Loc X.env.scope x:=by first|exact Or.inl rfl|exact Or.inr rfl)
 (hs:swapsWithSole [.Name x p] e pos.line X.env=pure false:=by rfl) (hw:swappedStores [.Name x p] e X.env=pure none:=by rfl) (hf:X.fn x=true\/X.env.scope.names.lookup x=some .local:=by first|exact .inl rfl|exact .inr rfl) :
  QSF X (.Assign [.Name x p] e pos) (fun Z=>(ga Z).out Z fun d=>.nx (Z.set i (some (.val d)))):=oH he (dM i hN hi hx hf) hs hw
theorem StR.setOwn {K:PySem.W.Frag} {K0:Hp} (s:StR K K1 K0 G H σ Z) {l:Addr} (hl:H l=none) (r:Reps K G vs ds) (i:Nat) :
  StR K K1 K0 G (upd H l (.lst vs)) (σ.set i (some (.ref l))) (Z.set i (some (.own ds))):=by
 have gl:G l=none:=s.e.sub.free hl
 have sub:Same G (upd H l (.lst vs)):=fun a o e=>by rw [aL (aO e gl)];exact s.e.sub a o e
 have get:∀ (j:Nat) x,(Z.set i (some (.own ds)))[j]?=some (some x)->(j=i/\x=.own ds/\i<σ.length)\/(j≠i/\Z[j]?=some (some x)/\(σ.set i (some (.ref l)))[j]?=σ[j]?):=fun j x h=>by
  by_cases e:i=j
  ·subst e
   have hl:i<Z.length:=by
    have:=(List.getElem?_eq_some_iff.mp h).1
    simpa using this
   rw [List.getElem?_set_self hl] at h
   exact .inl ⟨rfl,by injection (Option.some.inj h) with q;exact q.symm,by rw [s.e.len];exact hl⟩
  ·rw [List.getElem?_set_ne e] at h
   exact .inr ⟨fun z=>e z.symm,h,List.getElem?_set_ne e⟩
 have ob:ObSt K K0 G (upd H l (.lst vs)) (σ.set i (some (.ref l))) (Z.set i (some (.own ds))):=by
  obtain ⟨ow,o1,o2⟩:=s.ob
  have nl:∀ {a:Addr} {o:HO},H a=some o->a≠l:=fun e z=>by rw [z,hl] at e;cases e
  refine ⟨fun a=>if a=l then some (i,0) else ow a,fun j es l' h1 h2=>?_,fun j m C p fs h1=>?_⟩
  ·rcases get j _ h1 with ⟨rfl,e,hj⟩|⟨_,e,e'⟩
   ·rw [List.getElem?_set_self hj] at h2;cases h2;exact if_pos rfl
   ·rw [e'] at h2
    obtain ⟨l2,vs2,q1,q2,_⟩:=s.own j es e
    rw [h2] at q1;cases q1
    exact (if_neg (nl q2)).trans (o1 j es l' e h2)
  ·rcases get j _ h1 with ⟨_,e,_⟩|⟨_,e,e'⟩
   ·cases e
   ·rw [e']
    refine ⟨(o2 j m C p fs e).1,(o2 j m C p fs e).2.keep ⟨fun a t o _ q=>?_,.refl _,fun a t o _ _ n=>n,fun a t o q1 q2=>?_,fun a o _ _ n=>n⟩⟩
    ·rw [aL (nl q)];exact q
    ·exact (if_neg (nl q2)).trans q1
 refine ⟨⟨sub,by simp [s.e.len],fun j d' h=>?_,ob.rd⟩,s.sub0,⟨sub,s.up.gg,fun a o e=>?_,s.up.fr⟩,fun j es h=>?_,fun j k es fs l' h1 h2 h3 h4=>?_,ob⟩
 ·rcases get j _ h with ⟨_,e,_⟩|⟨_,e,e'⟩
  ·cases e
  ·rw [e'];exact s.e.val j d' e
 ·rw [aL (aO (s.up.hh a o e) hl)];exact s.up.hh a o e
 ·rcases get j _ h with ⟨rfl,e,hj⟩|⟨_,e,e'⟩
  ·cases e
   exact ⟨l,vs,List.getElem?_set_self hj,aX,gl,s.up.hh.free hl,r⟩
  ·obtain ⟨l',vs',h1,h2,h3,h4,h5⟩:=s.own j es e
   exact ⟨l',vs',by rw [e'];exact h1,by rw [aL (aO h2 hl)];exact h2,h3,h4,h5⟩
 ·rcases get j _ h1 with ⟨rfl,e,hj⟩|⟨nj,e,e'⟩
  ·rcases get k _ h2 with ⟨rfl,f,_⟩|⟨nk,f,f'⟩
   ·rfl
   ·obtain ⟨l2,vs2,q1,q2,_⟩:=s.own k fs f
    rw [List.getElem?_set_self hj] at h3
    rw [f',q1] at h4
    cases h3
    cases h4
    rw [hl] at q2;cases q2
  ·rcases get k _ h2 with ⟨rfl,f,hk⟩|⟨nk,f,f'⟩
   ·obtain ⟨l2,vs2,q1,q2,_⟩:=s.own j es e
    rw [List.getElem?_set_self hk] at h4
    rw [e',q1] at h3
    cases h3
    cases h4
    rw [hl] at q2;cases q2
   ·exact s.inj j k es fs l' e f (e' ▸ h3) (f' ▸ h4)
theorem wr (i:Nat) (hN:X.N.Nodup) (he:QFL X e gl) (hi:X.N[i]?=some x:=by rfl) (hx:Loc X.env.scope x:=by first|exact Or.inl rfl|exact Or.inr rfl)
 (hs:swapsWithSole [.Name x p] e pos.line X.env=pure false:=by rfl) (hw:swappedStores [.Name x p] e X.env=pure none:=by rfl) (hf:X.fn x=true\/X.env.scope.names.lookup x=some .local:=by first|exact .inl rfl|exact .inr rfl) :
  QSF X (.Assign [.Name x p] e pos) (fun Z=>(gl Z).out Z fun ds=>.nx (Z.set i (some (.own ds)))):=fun K1 K0 pins s σ H D I h=>by
 refine qB he (gz (i:=i) hN hi hx hf) hs hw rfl pins s σ H D I ?_
 obtain ⟨G,Z,sr,h⟩:=h
 try dsimp only at h
 refine ⟨G,Z,sr.e,?_⟩
 cases q:gl Z with
 | ok ds=>rw [q] at h;exact fun l vs G' H' u hl r=>h _ G' _ ((sr.ups u).setOwn hl r i)
 | ex C=>rw [q] at h;exact Exx.of sr h
 | no=>rw [q] at h;exact h
theorem StR.mut {K:PySem.W.Frag} {K0:Hp} (s:StR K K1 K0 G H σ Z) {l:Addr} {es:List D} (e:Z[i]?=some (some (.own ds))) (hs:σ[i]?=some (some (.ref l))) (r:Reps K G vs es) :
  StR K K1 K0 G (upd H l (.lst vs)) σ (Z.set i (some (.own es))):=by
 obtain ⟨l0,vs0,h1,h2,h3,h4,h5⟩:=s.own i ds e
 rw [hs] at h1
 cases h1
 have sub:Same G (upd H l (.lst vs)):=fun a o e=>by rw [aL (aO e h3)];exact s.e.sub a o e
 have hl:i<Z.length:=(List.getElem?_eq_some_iff.mp e).1
 have get:∀ (j:Nat) x,(Z.set i (some (.own es)))[j]?=some (some x)->(j=i/\x=.own es)\/(j≠i/\Z[j]?=some (some x)):=fun j x h=>by
  by_cases e:i=j
  ·subst e
   rw [List.getElem?_set_self hl] at h
   exact .inl ⟨rfl,by injection (Option.some.inj h) with q;exact q.symm⟩
  ·rw [List.getElem?_set_ne e] at h
   exact .inr ⟨fun z=>e z.symm,h⟩
 have ob:ObSt K K0 G (upd H l (.lst vs)) σ (Z.set i (some (.own es))):=by
  obtain ⟨ow,o1,o2⟩:=s.ob
  have ol:=o1 i ds l e hs
  refine ⟨ow,fun j fs l' q1 q2=>?_,fun j m C p fs q1=>?_⟩
  ·rcases get j _ q1 with ⟨rfl,_⟩|⟨nj,f1⟩
   ·exact o1 j ds l' e q2
   ·exact o1 j fs l' f1 q2
  ·rcases get j _ q1 with ⟨_,e'⟩|⟨nj,f1⟩
   ·cases e'
   ·have ne:∀ a t,ow a=some (j,t)->a≠l:=fun a t q z=>by rw [z,ol] at q;cases q;exact nj rfl
    refine ⟨(o2 j m C p fs f1).1,(o2 j m C p fs f1).2.keep ⟨fun a t o q1 q=>?_,.refl _,fun a t o _ _ n=>n,fun a t o q1 _=>q1,fun a o _ _ n=>n⟩⟩
    ·rw [aL (ne a t q1)];exact q
 refine ⟨⟨sub,by simp [s.e.len],fun j d' h=>?_,ob.rd⟩,s.sub0,⟨sub,s.up.gg,fun a o e=>?_,s.up.fr⟩,fun j fs h=>?_,fun j k fs gs l' q1 q2 q3 q4=>?_,ob⟩
 ·rcases get j _ h with ⟨_,e⟩|⟨_,e⟩
  ·cases e
  ·exact s.e.val j d' e
 ·rw [aL (aO e h4)];exact s.up.hh a o e
 ·rcases get j _ h with ⟨rfl,e'⟩|⟨nj,e'⟩
  ·cases e'
   exact ⟨l,vs,hs,aX,h3,h4,r⟩
  ·obtain ⟨l',vs',p1,p2,p3,p4,p5⟩:=s.own j fs e'
   have:l'≠l:=fun z=>by subst z;exact nj (s.inj j i fs ds l' e' e p1 hs)
   exact ⟨l',vs',p1,by rw [aL this];exact p2,p3,p4,p5⟩
 ·rcases get j _ q1 with ⟨rfl,_⟩|⟨nj,f1⟩
  ·rcases get k _ q2 with ⟨rfl,_⟩|⟨nk,f2⟩
   ·rfl
   ·exact s.inj j k ds gs l' e f2 q3 q4
  ·rcases get k _ q2 with ⟨rfl,_⟩|⟨nk,f2⟩
   ·exact s.inj j k fs ds l' f1 e q3 q4
   ·exact s.inj j k fs gs l' f1 f2 q3 q4
def frz (i:Nat) (Z:Ev):Ev:=match Z[i]? with
 | some (some (.own ds))=>Z.set i (some (.val (.lst false ds)))
 | _=>Z
theorem StR.frzTo {K:PySem.W.Frag} {K0:Hp} (s:StR K K1 K0 G H σ Z) (i:Nat):∃ G',StR K K1 K0 G' H σ (L2.frz i Z)/\(G'=G\/∃ l vs,G l=none/\G'=upd G l (.lst vs)):=by
 unfold L2.frz
 split
 ·rename_i ds e
  obtain ⟨l,vs,h1,h2,h3,h4,h5⟩:=s.own i ds e
  have hl:i<Z.length:=(List.getElem?_eq_some_iff.mp e).1
  have g0:K1 l=none:=s.sub0.free h4
  have into:Same G (upd G l (.lst vs)):=.into h3
  have sub:Same (upd G l (.lst vs)) H:=fun a o q=>by
   by_cases ea:a=l
   ·subst ea;rw [aX] at q;rw [<- q];exact h2
   ·rw [aL ea] at q;exact s.e.sub a o q
  have get:∀ (j:Nat) x,(Z.set i (some (.val (.lst false ds))))[j]?=some (some x)->(j=i/\x=.val (.lst false ds))\/(j≠i/\Z[j]?=some (some x)):=fun j x h=>by
   by_cases e:i=j
   ·subst e
    rw [List.getElem?_set_self hl] at h
    exact .inl ⟨rfl,by injection (Option.some.inj h) with q;exact q.symm⟩
   ·rw [List.getElem?_set_ne e] at h
    exact .inr ⟨fun z=>e z.symm,h⟩
  have ob:ObSt K K0 (upd G l (.lst vs)) H σ (Z.set i (some (.val (.lst false ds)))):=by
   obtain ⟨ow,o1,o2⟩:=s.ob
   have ol:=o1 i ds l e h1
   refine ⟨ow,fun j fs l' q1 q2=>?_,fun j m C p fs q1=>?_⟩
   ·rcases get j _ q1 with ⟨_,e'⟩|⟨nj,f1⟩
    ·cases e'
    ·exact o1 j fs l' f1 q2
   ·rcases get j _ q1 with ⟨_,e'⟩|⟨nj,f1⟩
    ·cases e'
    ·have ne:∀ a t,ow a=some (j,t)->a≠l:=fun a t q z=>by rw [z,ol] at q;cases q;exact nj rfl
     refine ⟨(o2 j m C p fs f1).1,(o2 j m C p fs f1).2.keep ⟨fun a t o _ q=>q,into,fun a t o q1 _ n=>?_,fun a t o q1 _=>q1,fun a o _ _ n=>n⟩⟩
     ·rw [aL (ne a t q1)];exact n
  refine ⟨upd G l (.lst vs),⟨⟨sub,by simp [s.e.len],fun j d' h=>?_,ob.rd⟩,s.sub0,⟨sub,s.up.gg.trans into,s.up.hh,fun a o q=>?_⟩,fun j fs h=>?_,fun j k fs gs l' q1 q2 q3 q4=>?_,ob⟩,.inr ⟨l,vs,h3,rfl⟩⟩
  ·rcases get j _ h with ⟨rfl,e'⟩|⟨_,e'⟩
   ·cases e'
    exact ⟨.ref l,h1,.lst aX (h5.mono into)⟩
   ·obtain ⟨v,p1,p2⟩:=s.e.val j d' e'
    exact ⟨v,p1,p2.mono into⟩
  ·by_cases ea:a=l
   ·subst ea;exact .inr h4
   ·rw [aL ea] at q;exact s.up.fr a o q
  ·rcases get j _ h with ⟨_,e'⟩|⟨nj,e'⟩
   ·cases e'
   ·obtain ⟨l',vs',p1,p2,p3,p4,p5⟩:=s.own j fs e'
    have:l'≠l:=fun z=>by subst z;exact nj (s.inj j i fs ds l' e' e p1 h1)
    exact ⟨l',vs',p1,p2,by rw [aL this];exact p3,p4,p5.mono into⟩
  ·rcases get j _ q1 with ⟨_,e'⟩|⟨nj,f1⟩
   ·cases e'
   ·rcases get k _ q2 with ⟨_,e'⟩|⟨nk,f2⟩
    ·cases e'
    ·exact s.inj j k fs gs l' f1 f2 q3 q4
 ·exact ⟨G,s,.inl rfl⟩
theorem StR.frz {K:PySem.W.Frag} {K0:Hp} (s:StR K K1 K0 G H σ Z) (i:Nat):∃ G',StR K K1 K0 G' H σ (L2.frz i Z):=
 let ⟨G',h,_⟩:=s.frzTo i;⟨G',h⟩
theorem sA {sts:List Stmt} (i:Nat) (h:zF X sts g):zF X sts (fun Z=>g (frz i Z)):=fun K1 K0 pins s σ H D I q=>by
 obtain ⟨G,Z,sr,q⟩:=q
 obtain ⟨G',sr'⟩:=sr.frz i
 exact h K1 K0 pins s σ H D I ⟨G',_,sr',q⟩
def ownAt (Z:Ev) (i:Nat):R (List D):=match Z[i]? with
 | some (some (.own ds))=>.ok ds
 | _=>.no
theorem ownAt.ok {k:List D->O} {D:Ends} {K0:Hp} (h:ke X K1 K0 D ((ownAt Z i).out Z k)):∃ ds,Z[i]?=some (some (.own ds))/\ke X K1 K0 D (k ds):=by
 unfold ownAt at h
 split at h
 ·rename_i ds e;exact ⟨ds,e,h⟩
 ·exact h.elim
theorem pL (i:Nat) {ap cp:Pos} (he:QF X e ga) (hi:X.N[i]?=some x:=by rfl) (hv:Vis X.env.scope x:=by first|exact Or.inl rfl|exact Or.inr (Or.inl rfl))
 (hd:(x==("__debug__":Str))=false:=by decide) (hcd:(x==("__classdict__":Str))=false:=by decide) (hs1:starEach [e] X.env=(false,eval e X.env)::starEach [] X.env:=by rfl)
 (hbase:attributeBase (.Name x p) "append" X.env (eval (.Name x p) X.env)=eval (.Name x p) X.env:=by rfl)
 (hfew:((backTo cp (starEach [e] X.env)).all (fun x=>!x.1) && (backToKw cp (keywordEach [] X.env)).all (fun x=>x.1.isSome)
 && decide ([e].length+([]:List Keyword).length+(if ([]:List Keyword).isEmpty then 0 else 1)<30))=true:=by rfl)
 (hline:(ap.endLine==cp.line)=true:=by rfl)
 (hs:swapsWith (.Call (.Attribute (.Name x p) "append" ap) [e] [] cp) none pos.line X.env=pure false:=by rfl) :
  QSF X (.Expr (.Call (.Attribute (.Name x p) "append" ap) [e] [] cp) pos) (fun Z=>(ownAt Z i).out Z fun ds=>(ga Z).out Z fun d=>if ds.length<sizeLine then .nx (Z.set i (some (.own (ds++[d])))) else .no):=fun K1 K0 pins s σ H D I h=>by
 refine iw (Ab PySem.F.plainAttrs_list PySem.F.slot_list_append PySem.F.type_list_append nr (cw hi hv hd hcd) (bQ he fE hs1) hbase hfew hline hs1 rfl) hs pins s σ H D I ?_
 obtain ⟨G,Z,sr,h⟩:=h
 try dsimp only at h
 obtain ⟨ds,e1,h⟩:=ownAt.ok h
 obtain ⟨l,vs,h1,h2,h3,h4,h5⟩:=sr.own i ds e1
 refine ⟨.ref l,h1,.inl ⟨rfl,vs,.of h2⟩,G,Z,sr.e,?_⟩
 cases q:ga Z with
 | ok d=>
  rw [q] at h
  simp only [R.out] at h
  intro v G' H' u r
  by_cases hz:ds.length<sizeLine
  ·rw [if_pos hz] at h
   refine ⟨l,vs,v,rfl,rfl,u.hh _ _ h2,by rw [h5.length];exact hz,h _ G' _ ?_⟩
   exact (sr.ups u).mut e1 h1 ((h5.mono u.gg).append (.cons r .nil))
  ·rw [if_neg hz] at h;exact h.elim
 | ex C=>rw [q] at h;exact Exx.of sr h
 | no=>rw [q] at h;exact h
def asL:D->R (List D)
 | .lst false xs=>.ok xs
 | _=>.no
theorem pP (i:Nat) {ap cp:Pos} (he:QF X e ga) (hi:X.N[i]?=some x:=by rfl) (hv:Vis X.env.scope x:=by first|exact Or.inl rfl|exact Or.inr (Or.inl rfl))
 (hd:(x==("__debug__":Str))=false:=by decide) (hcd:(x==("__classdict__":Str))=false:=by decide) (hs1:starEach [e] X.env=(false,eval e X.env)::starEach [] X.env:=by rfl)
 (hbase:attributeBase (.Name x p) "extend" X.env (eval (.Name x p) X.env)=eval (.Name x p) X.env:=by rfl)
 (hfew:((backTo cp (starEach [e] X.env)).all (fun x=>!x.1) && (backToKw cp (keywordEach [] X.env)).all (fun x=>x.1.isSome)
 && decide ([e].length+([]:List Keyword).length+(if ([]:List Keyword).isEmpty then 0 else 1)<30))=true:=by rfl)
 (hline:(ap.endLine==cp.line)=true:=by rfl)
 (hs:swapsWith (.Call (.Attribute (.Name x p) "extend" ap) [e] [] cp) none pos.line X.env=pure false:=by rfl) :
  QSF X (.Expr (.Call (.Attribute (.Name x p) "extend" ap) [e] [] cp) pos) (fun Z=>(ownAt Z i).out Z fun ds=>(ga Z).out Z fun d=>(asL d).out Z fun es=>if ds.length+es.length<=sizeLine then .nx (Z.set i (some (.own (ds++es)))) else .no):=fun K1 K0 pins s σ H D I h=>by
 refine iw (Ab PySem.F.plainAttrs_list PySem.F.slot_list_extend PySem.F.type_list_extend ye (cw hi hv hd hcd) (bQ he fE hs1) hbase hfew hline hs1 rfl) hs pins s σ H D I ?_
 obtain ⟨G,Z,sr,h⟩:=h
 try dsimp only at h
 obtain ⟨ds,e1,h⟩:=ownAt.ok h
 obtain ⟨l,vs,h1,h2,h3,h4,h5⟩:=sr.own i ds e1
 refine ⟨.ref l,h1,.inl ⟨rfl,vs,.of h2⟩,G,Z,sr.e,?_⟩
 cases q:ga Z with
 | ok d=>
  rw [q] at h
  simp only [R.out] at h
  intro v G' H' u r
  cases r with
  | lst hb t=>
   rename_i b ws es
   have h:ke X K1 K0 D (if ds.length+es.length<=sizeLine then .nx (Z.set i (some (.own (ds++es)))) else .no):=h
   by_cases hz:ds.length+es.length<=sizeLine
   ·rw [if_pos hz] at h
    refine ⟨l,b,vs,ws,rfl,rfl,u.hh _ _ h2,u.sub _ _ hb,by rw [h5.length,t.length];exact hz,h _ G' _ ?_⟩
    exact (sr.ups u).mut e1 h1 ((h5.mono u.gg).append t)
   ·rw [if_neg hz] at h;exact h.elim
  | _=>exact h.elim
 | ex C=>rw [q] at h;exact Exx.of sr h
 | no=>rw [q] at h;exact h
noncomputable def dF (asg:D->Ev->R Ev) (g:Ev->O):List D->Ev->O
 | [],Z=>.nx Z
 | d::ds,Z=>(asg d Z).out Z fun Z1=>match g Z1 with
  | .nx Z2=>dF asg g ds Z2
  | .ct Z2=>dF asg g ds Z2
  | .bk Z2=>.nx Z2
  | .rt d=>.rt d
  | .re d Z2=>.re d Z2
  | .ex C Z2=>.ex C Z2
  | .no=>.no
def mix (K0 K5:Hp):Hp:=fun a=>match K5 a with
 | some o=>some o
 | none=>K0 a
theorem pZ {K0 K5:Hp} {a:Addr} (h:mix K0 K5 a=none):K5 a=none/\K0 a=none:=by
 unfold mix at h
 cases q:K5 a with
 | none=>rw [q] at h;exact ⟨rfl,h⟩
 | some o=>rw [q] at h;cases h
section
variable {K:PySem.W.Frag} {K1 K0 K5 K6 G H:Hp} {σ:St} {Z:Ev}
theorem StR.to (s:StR K K1 K0 K5 K6 σ Z):StR K K5 (mix K0 K5) K5 K6 σ Z:=by
 refine ⟨s.e,fun a o e=>?_,⟨s.e.sub,.refl _,fun a o e=>?_,fun _ _ e=>.inl e⟩,fun i ds e=>?_,s.inj,?_⟩
 ·unfold mix;rw [e]
 ·unfold mix at e
  cases q:K5 a with
  | none=>rw [q] at e;exact s.up.hh a o e
  | some o'=>rw [q] at e;cases e;exact s.e.sub a o q
 ·obtain ⟨l,vs,h1,h2,h3,h4,h5⟩:=s.own i ds e
  exact ⟨l,vs,h1,h2,h3,by unfold mix;rw [h3];exact h4,h5⟩
 ·obtain ⟨ow,o1,o2⟩:=s.ob
  exact ⟨ow,o1,fun i m C p fs e=>⟨(o2 i m C p fs e).1,(o2 i m C p fs e).2.keep ⟨fun a t o _ q=>q,.refl _,fun a t o _ _ n=>n,fun a t o q1 _=>q1,fun a o _ g n=>by unfold mix;rw [g];exact n⟩⟩⟩
theorem Up.back (u:Up K1 K0 K5 K6) (v:Up K5 (mix K0 K5) G H):Up K1 K0 G H:=by
 refine ⟨v.sub,u.gg.trans v.gg,fun a o e=>?_,fun a o e=>?_⟩
 ·cases q:K5 a with
  | none=>exact v.hh a o (by unfold mix;rw [q];exact e)
  | some o'=>
   have h1:=u.sub a o' q
   have h2:=u.hh a o e
   rw [h1] at h2
   cases h2
   exact v.hh a o (by unfold mix;rw [q])
 ·rcases v.fr a o e with h|h
  ·exact u.fr a o h
  ·exact .inr (pZ h).2
theorem StR.back (s0:Same K1 K0) (u:Up K1 K0 K5 K6) (s:StR K K5 (mix K0 K5) G H σ Z):StR K K1 K0 G H σ Z:=
 ⟨s.e,s0,u.back s.up,fun i ds e=>let ⟨l,vs,h1,h2,h3,h4,h5⟩:=s.own i ds e;⟨l,vs,h1,h2,h3,(pZ h4).2,h5⟩,s.inj,by
 obtain ⟨ow,o1,o2⟩:=s.ob
 exact ⟨ow,o1,fun i m C p fs e=>⟨(o2 i m C p fs e).1,(o2 i m C p fs e).2.keep ⟨fun a t o _ q=>q,.refl _,fun a t o _ _ n=>n,fun a t o q1 _=>q1,fun a o _ _ n=>(pZ n).2⟩⟩⟩⟩
end
theorem wo (hp:PassesOwn (model X.prog X.w) X.A X.env X.xe) (hcalm:X.calm=true) (hi:QIF X tg iter gi) (hg:PGF X tg asg) (hb:zF X body g)
 (hs:∀ x,foldedSetIterable iter X.env x=pure x:=by intro _;rfl) (hn:∀ d Z C,asg d Z ≠ .ex C:=by intro _ _ _ z;cases z):QSF X (.For tg iter body [] pos) (fun Z=>(gi Z).out Z fun items=>dF asg g items Z):=fun K1 K0 pins s σ H D I h=>by
 obtain ⟨G,Z,sr,h⟩:=h
 try dsimp only at h
 cases q:gi Z with
 | ok items=>
  rw [q] at h
  simp only [R.out] at h
  have key:∀ (J:It) (G1 H1:Hp),Up G H G1 H1->ItOk X.K G1 J items->∃ W:Nat->Nat->St->Hp->Prop,(∃ m,W 0 m σ H1)/\∀ i m σ H,W i m σ H->
    (J.stop i H/\D.nx σ H)\/(J.go i H/\∃ N:St->Hp->Prop,(∀ σ' H',N σ' H'->∃ m',m'<m/\W (i+1) m' σ' H')/\∀ x H',J.yld i H x H'->(fun v σ H Q=>∃ K1 K0 G Z d Z',StR X.K K1 K0 G H σ Z/\Rep X.K G v d/\asg d Z=.ok Z'/\∀ σ',StR X.K K1 K0 G H σ' Z'->Q σ' H) x σ H' fun σ2 H2=>(fun D σ H=>∃ K1 K0,tS X K1 K0 g D σ H) { D with nx:=N,ct:=N,bk:=D.nx } σ2 H2):=by
   intro J G1 H1 u1 iok
   have sr1:=sr.ups u1
   refine ⟨fun i m σ' H'=>m=items.length - i/\i<=items.length/\∃ G' Z',StR X.K G1 (mix K0 G1) G' H' σ' Z'/\ke X K1 K0 D (dF asg g (items.drop i) Z'),⟨items.length,by simp,Nat.zero_le _,G1,Z,sr1.to,by simpa using h⟩,?_⟩
   rintro i m σ' H' ⟨rfl,hil,G',Z',sr',h'⟩
   have hIt:=iok i G' H' sr'.up.gg sr'.e.sub
   by_cases hlt:i<items.length
   ·have hd:items.drop i=items[i]::items.drop (i+1):=List.drop_eq_getElem_cons hlt
    rw [hd] at h'
    obtain ⟨go,yl⟩:=hIt.1 items[i] (by simp [hlt])
    refine .inr ⟨go,fun σ2 H2=>i+1<=items.length/\∃ G2 Z2,StR X.K G1 (mix K0 G1) G2 H2 σ2 Z2/\ke X K1 K0 D (dF asg g (items.drop (i+1)) Z2),fun σ2 H2 q2=>⟨items.length - (i+1),by omega,rfl,q2⟩,fun x H2 y=>?_⟩
    obtain ⟨G2,up2,rep2⟩:=yl x H2 y
    unfold dF at h'
    cases q2:asg items[i] Z' with
    | ok Z1=>
     rw [q2] at h'
     simp only [R.out] at h'
     refine ⟨G1,mix K0 G1,G2,Z',items[i],Z1,sr'.ups up2,rep2,q2,fun σ3 sr3=>⟨G1,mix K0 G1,G2,Z1,sr3,?_⟩⟩
     cases q3:g Z1 with
     | nx Z2=>rw [q3] at h';exact fun σ4 G4 H4 sr4=>⟨hlt,G4,Z2,sr4,h'⟩
     | ct Z2=>rw [q3] at h';exact fun σ4 G4 H4 sr4=>⟨hlt,G4,Z2,sr4,h'⟩
     | bk Z2=>rw [q3] at h';exact fun σ4 G4 H4 sr4=>h' σ4 G4 H4 (sr4.back sr.sub0 sr1.up)
     | rt d=>rw [q3] at h';exact fun v G4 H4 u4 r4=>h' v G4 H4 (sr1.up.back u4) r4
     | re d Z2=>rw [q3] at h';exact fun v σ4 G4 H4 sr4 r4=>h' v σ4 G4 H4 (sr4.back sr.sub0 sr1.up) r4
     | ex C Z2=>rw [q3] at h';exact fun e s' f4=>h' e s' (f4.map fun σ4 G4 H4 sr4=>sr4.back sr.sub0 sr1.up)
     | no=>rw [q3] at h';exact h'
    | ex C=>exact absurd q2 (hn _ _ C)
    | no=>rw [q2] at h';exact h'.elim
   ·have hie:i=items.length:=by omega
    subst hie
    rw [List.drop_length] at h'
    exact .inl ⟨hIt.2 (Nat.le_refl _),h' σ' G' H' (sr'.back sr.sub0 sr1.up)⟩
  have hb':PSs X body (fun D σ H=>∃ K1 K0,tS X K1 K0 g D σ H):=fun pins s σ H D I ⟨K1,K0,q⟩=>hb K1 K0 pins s σ H D I q
  refine yZ hp hcalm hi hg hb' hs pins s σ H D I ⟨G,Z,sr.e,?_⟩
  rw [q]
  exact fun J G1 H1 u1 iok=>key J G1 H1 u1 iok
 | ex C=>
  rw [q] at h
  have hb':PSs X body (fun D σ H=>∃ K1 K0,tS X K1 K0 g D σ H):=fun pins s σ H D I ⟨K1,K0,q⟩=>hb K1 K0 pins s σ H D I q
  refine yZ hp hcalm hi hg hb' hs pins s σ H D I ⟨G,Z,sr.e,?_⟩
  rw [q]
  exact Exx.of sr h
 | no=>rw [q] at h;exact h.elim
end
end L2
namespace L2
open PySem PySem.Spec PyProof.Rows
def spF (K:PySem.W.Frag) (f:List D->R D):Sp:=fun vs H Q E=>∃ G ds,Same G H/\Reps K G vs ds/\(f ds).post (Fin G H (Rep K) Q) (fun C=>∀ G' H',Up G H G' H'->E (.ref C) none H')
noncomputable abbrev FnF (P:Program) (w:World) (K:PySem.W.Frag) (mg:Str->Option Value) (base:Heap) (k:Nat) (f:Addr) (fd:FuncData) (ps:List Str) (g:List D->R D):Prop:=FnOk P w K mg base (CXo P w) k f fd ps (fun vs H Q E=>vs.length=ps.length/\spF K g vs H Q E)
section
variable {X:Cx} {k:Nat} {f:Addr} {fd:FuncData} {ps:List Str} {x:Str} {p pos:Pos} {e:Expr} {es:List Expr} {gl:Ev->R (List D)} {g:List D->R D}
theorem xC (F:FnF X.prog X.w X.K X.mg X.base k f fd ps g) (hr:Room k X.A) (hg:Gl X x) (hm:X.mg x=some (.ref f)) (hk:PySem.W.keepIn X.K (.ref f)=true) (hb:Binds X.K fd ps []) (ha:QFA X (e::es) gl)
 (hdb:(x==("__debug__":Str))=false:=by decide) (he:starEach (e::es) X.env=(false,eval e X.env)::starEach es X.env:=by rfl) (hpl:(backTo pos (starEach es X.env)).any (·.1)=false:=by rfl) :
  QF X (.Call (.Name x p) (e::es) [] pos) (fun Z=>gl Z>>=fun ds=>if ds.length=ps.length then g ds else .no):=by
 intro pins s σ H Q I h
 obtain ⟨G,Z,st,h⟩:=h
 have t:tAF X gl σ H (fun vs H1=>∃ G1 ds,Up G H G1 H1/\Same G1 H1/\Reps X.K G1 vs ds/\ds.length=ps.length/\(g ds).post (Fin G1 H1 (Rep X.K) Q) (Exx X σ G1 H1)):=by
  refine tG.intro st h fun ds vs G1 H1 u1 st1 r1 h1=>?_
  by_cases hl:ds.length=ps.length
  ·rw [if_pos hl] at h1;exact ⟨G1,ds,u1,st1.sub,r1,hl,h1⟩
  ·rw [if_neg hl] at h1;exact h1.elim
 refine wpAny_Call_Name_kw (fv I hg hm ?_ hdb)
 refine PySem.W.callWith_K (h₀:=X.base) I.ok.mod.kin hk (thn (ha pos pins s σ H _ I t) fun us s1 q=>⟨?_,?_⟩) he hpl
 ·obtain ⟨vs,H1,I1,r,_⟩:=q;exact I1.kIn
 obtain ⟨vs,H1,I1,r,G1,ds,u1,sub1,rp,hl,h1⟩:=q
 have hvl:vs.length=ps.length:=by rw [rp.length];exact hl
 have hul:(us++[]).length=ps.length:=by rw [List.append_nil,<- r.length];exact hvl
 have hbb:=hb s1 us I1.kIn hul
 rw [List.append_nil] at hbb
 refine wpAny_call (codeAny_mono (F.run X.A X.stack s1 H1 ⟨us,[]⟩ us vs Q (fun c _ H'=>∃ C G',c=.ref C/\Up G1 H1 G' H'/\Exx X σ G1 H1 C) hr I1.env0 hbb r ⟨hvl,G1,ds,sub1,rp,h1.mono (fun _ q=>q) fun C q G' H' u=>⟨C,G',rfl,u,q⟩⟩) fun r' s' hq=>?_)
 cases r' with
 | error e'=>
  obtain ⟨a,C,H',rfl,fl,C',G',ec,u,q⟩:=hq
  cases ec
  exact q _ _ ⟨G1,H1,.refl sub1,pins,s1,a,rfl,I1,.inr (.inl ⟨G',H',fl,u⟩)⟩
 | ok fl=>
  cases fl with
  | ret u=>exact I1.after hq
  | _=>exact False.elim hq
end
theorem ObjOk.there {w:World} (x:ObjOk P w H h a o):∃ ob,h.get? a=some ob:=by
 cases o with
 | lst xs=>obtain ⟨_,_,_,_,e⟩:=x;exact ⟨_,e⟩
 | tup xs=>obtain ⟨_,_,_,o,e,_⟩:=x;exact ⟨_,e⟩
 | dK kvs=>obtain ⟨_,_,_,_,o,_,_,e,_⟩:=x;exact ⟨_,e⟩
 | dT kvs=>obtain ⟨_,_,_,_,o,_,_,e,_⟩:=x;exact ⟨_,e⟩
 | set S n=>obtain ⟨o,_,_,_,e,_⟩:=x;exact ⟨_,e⟩
 | ins C dx fs=>obtain ⟨_,_,_,e,_⟩:=x;exact ⟨_,e⟩
 | own y=>obtain ⟨_,e⟩:=x;exact ⟨_,e⟩
 | xd fs=>obtain ⟨_,⟨_,_,_,e,_⟩,_⟩:=x;exact ⟨_,e⟩
 | rng lo hi=>obtain ⟨_,_,_,e⟩:=x;exact ⟨_,e⟩
 | frz ob u=>obtain ⟨e,_⟩:=x;exact ⟨_,e⟩
 | tbl ps=>obtain ⟨_,e,_⟩:=x;exact ⟨_,e⟩
 | met f y=>exact ⟨_,show h.get? a=some _ from x⟩
 | ext φ=>obtain ⟨_,⟨_,e⟩,_⟩:=x;exact ⟨_,e⟩
theorem uW {env:Env} {outer:List Env} {L:Addr} (h:env.frame=some L):frs (env::outer)=L::frs outer:=by
 unfold frs
 rw [List.filterMap_cons,h]
section
variable {P:Program} {w:World} {H H':Hp} {h h1 h2 hm:Heap} {l l':List Addr} {B:Heap}
theorem HOk.flight (x:HOk P w H' h1) (hb:B.StaysIn h2) (hk:∀ b o,b ∉ l->((∃ o0,hm.get? b=some o0)\/∃ u,H' b=some u)->h1.get? b=some o->B.get? b=some o) (hl:∀ b∈l,H' b=none):HOk P w H' h2:=fun a o e=>by
 refine (x a o e).stay (fun b u hbb q=>hb b u (hk b u (fun z=>?_) (.inr ?_) q)) (fun _ z=>z) (fun _ _ z=>z)
 ·rcases hbb with rfl|hbb
  ·rw [hl _ z] at e;cases e
  ·rw [hl _ z] at hbb;cases hbb
 ·rcases hbb with rfl|hbb
  ·exact ⟨_,e⟩
  ·exact ⟨_,hbb⟩
theorem Un.flight {ex:List Addr} (u:Un l' ex H H' h h1) (hb:B.StaysIn h2) (sm:h1.UpToSlots h2) (hk:∀ b o,b ∉ l->((∃ o0,hm.get? b=some o0)\/∃ u,H' b=some u)->h1.get? b=some o->B.get? b=some o) (lt:∀ b o,h.get? b=some o->∃ o0,hm.get? b=some o0)
 (hl:∀ b∈l,b∈l'\/h.objs.size<=b) (hd:∀ b∈l,∀ o,h1.get? b=some o->∀ vs,o.data ≠ .fields vs):Un l' ex H H' h h2:=by
 refine ⟨fun b o e nn hb' hx=>?_,fun b o e nn hb' hx=>?_,u.free,fun b o e hx=>?_,u.tups,u.frzs,u.tbls⟩
 ·have q:=u.keep b o e nn hb' hx
  refine hb b o (hk b o (fun z=>?_) (.inl (lt b o e)) q)
  rcases hl b z with z|z
  ·exact hb' z
  ·exact absurd (Heap.lt_size e) (Nat.not_lt.mpr z)
 ·obtain ⟨sl,q⟩:=u.slot b o e nn hb' hx
  by_cases z:b∈l
  ·obtain ⟨sl',q'⟩:=sm b _ q (hd b z _ q)
   exact ⟨sl',q'⟩
  ·exact ⟨sl,hb b _ (hk b _ z (.inl (lt b o e)) q)⟩
 ·obtain ⟨o',q⟩:=u.there b o e hx
  by_cases z:b∈l
  ·obtain ⟨sl',q'⟩:=sm b _ q (hd b z _ q)
   exact ⟨_,q'⟩
  ·exact ⟨o',hb b _ (hk b _ z (.inl (lt b o e)) q)⟩
end
theorem FunFrames.data {base:Heap}:∀ {l:List Env},h.FunFrames base l->∀ b∈frs l,∃ o,h.get? b=some o/\(∀ vs,o.data ≠ .fields vs)/\base.get? b=none:=fun {l} hf b hb=>by
 obtain ⟨h1,o,h2,h3⟩:=hf.mem hb
 exact ⟨o,h2,h3,h1⟩
noncomputable def gCx (P:Program) (w:World) (K:PySem.W.Frag) (mg:Str->Option Value) (base:Heap) (N:List Str) (env:Env) (fn:Str->Bool) (A:Around) (outer:List Env) (s:Shared) (H:Hp) (E:XK):Cx where
 prog:=P
 w:=w
 K:=K
 mg:=mg
 base:=base
 A:=A.deeper env
 N:=N
 L8:=s
 K0:=H
 env:=env
 outer:=outer
 stack:=env::outer
 ex:=[]
 calm:=true
 fn:=fn
 pn:=[]
 xe:=fun e s'=>wpAny (model P w) (A.deeper env) (leaving env e) (fun _ s''=>CXo P w outer H s E e s'') (fun e' s''=>CXo P w outer H s E e' s'') s'
theorem zv {w : World} {K : PySem.W.Frag} {mg : Str -> Option Value} {base : Heap} {N : List Str} {env : Env} {fn : Str -> Bool} {A : Around} {outer : List Env} {E : XK} {e : Value}
 (hloc : env.locals = s.heap.objs.size) (hf : env.frame = some s.heap.objs.size) (fl : FlyS (gCx P w K mg base N env fn A outer s H E) G H Z C e s') (hE : ∀ G' H', Up G H G' H' -> E (.ref C) none H') : (gCx P w K mg base N env fn A outer s H E).xe e s' := by
  obtain ⟨σ, K6, pins, K2, a, rfl, I, way⟩ := fl
  have hfr : (A.deeper (env)).frames = some (env :: outer) := I.ok.frames
  have hst : frs (env :: outer) = s.heap.objs.size :: frs outer := uW hf
  have old : ∀ b o, s.heap.get? b = some o -> ∃ o0, K2.heap.get? b = some o0 := fun b o e => I.base.there b o e (by show b ∉ ([] : List Addr); simp)
  show wpAny (model P w) (A.deeper (env)) (leaving (env) (.ref a)) (fun _ s'' => CXo P w outer H s E (.ref a) s'') (fun e' s'' => CXo P w outer H s E e' s'') s'
  -- the end, from the heap behind
  have fin : ∀ {H' : Hp} {G' : Hp} {s' : Shared} {h'' B : Heap} {a0 : Value}, Inv (gCx P w K mg base N env fn A outer s H E) pins σ H' s' -> StR K G H G' H' σ Z -> H' a = none -> Heap.FlyingW B outer a (.ref C) a0 h'' -> s'.heap.UpToSlots h'' ->
      (∀ b o, b ∉ s.heap.objs.size :: frs outer -> ((∃ o0, K2.heap.get? b = some o0) \/ ∃ u, H' b = some u) -> s'.heap.get? b = some o -> B.get? b = some o) -> CXo P w outer H s E (.ref a) { s' with heap := h'' } := by
    intro H' G' s' h'' B a0 J up ha fl sm hk
    have J0 : H' s.heap.objs.size = none := by have q : H' env.locals = none := J.free; rw [hloc] at q; exact q
    have fr0 : ∀ b ∈ frs outer, H' b = none := fun b hb => J.stkFree b (by show b ∈ frs (env :: outer); rw [hst]; exact List.mem_cons_of_mem _ hb)
    have frA : ∀ b ∈ s.heap.objs.size :: frs outer, H' b = none := fun b hb => by
      rcases List.mem_cons.mp hb with rfl | hb
      · exact J0
      · exact fr0 b hb
    have dat : ∀ b ∈ s.heap.objs.size :: frs outer, ∀ o, s'.heap.get? b = some o -> ∀ vs, o.data ≠ .fields vs := fun b hb o e => by
      obtain ⟨o', e', d', _⟩ := FunFrames.data J.stack b (by show b ∈ frs (env :: outer); rw [hst]; exact hb)
      rw [e] at e'; cases e'; exact d'
    have hok : HOk P w H' h'' := J.hok.flight fl.1 hk frA
    have un : Un (frs outer) [] H H' s.heap h'' := Un.flight J.base fl.1 sm hk old (fun b hb => (List.mem_cons.mp hb).elim (fun z => .inr (by rw [z]; exact Nat.le_refl _)) .inl) dat
    refine ⟨a, C, H', rfl, ⟨J.os, J.bare, un, hok, ha, B, a0, fl, fun b o hb ho e => ?_⟩, hE G' H' up.up⟩
    have nb : b ∉ s.heap.objs.size :: frs outer := fun z => by
      rcases List.mem_cons.mp z with z | z
      · rcases ho with ⟨o0, ho⟩ | ⟨u, ho⟩
        · rw [z] at ho; exact Nat.lt_irrefl _ (Heap.lt_size ho)
        · rw [z, J0] at ho; cases ho
      · exact hb z
    have ho' : (∃ o0, K2.heap.get? b = some o0) \/ ∃ u, H' b = some u := ho.imp (fun ⟨o0, z⟩ => old b o0 z) id
    have ex : ∃ o', s'.heap.get? b = some o' := by
      rcases ho with ⟨o0, ho⟩ | ⟨u, ho⟩
      · exact J.base.there b o0 ho (by show b ∉ ([] : List Addr); simp)
      · exact (J.hok b u ho).there
    obtain ⟨o', e'⟩ := ex
    have q := hk b o' nb ho' e'
    have q2 := fl.1 b o' q
    have e2 : h''.get? b = some o := e
    rw [q2] at e2
    cases e2
    exact q
  rcases way with ⟨K5, h', vs, sr, made, rfl⟩ | ⟨G', H', ⟨os, bare, un, hok, ha, B, a0, fl, hk⟩, up⟩ | ⟨G', H', L', hL, ⟨os, bare, ⟨ch, hch, un⟩, hok, ha, _, B, a0, fl, hk⟩, up⟩
  · -- made here
    have J : Inv (gCx P w K mg base N env fn A outer s H E) pins σ K6 { K2 with heap := h' } := I.kept (t' := K2.toks) made.keeps
    have hin : ∀ en ∈ (env :: outer), ∀ b, en.frame = some b -> b ∈ s.heap.objs.size :: frs outer := fun en he b hb => by
      rw [<- hst]; exact List.mem_filterMap.mpr ⟨en, he, hb⟩
    refine wpAny_leaves_madeW (base := PySem.W.hideAll K2.heap (s.heap.objs.size :: frs outer)) hfr hf (fun b o q => PySem.W.of_hideAll _ q) (PySem.W.funFrames_hide I.stack hin) made fun h'' t fl' _ _ sm => ?_
    have ha : K6 a = none := by
      cases q : K6 a with
      | none => rfl
      | some u =>
        obtain ⟨ob, e⟩ := (I.hok a u q).there
        rw [made.new] at e; cases e
    refine fin J sr ha fl' sm fun b o hb ho e => ?_
    have e1 : K2.heap.get? b = some o := by
      rcases ho with ⟨o0, ho⟩ | ⟨u, ho⟩
      · have q := made.keeps b o0 ho
        have e' : h'.get? b = some o := e
        rw [q] at e'; cases e'; exact ho
      · obtain ⟨ob, ho⟩ := (I.hok b u ho).there
        have q := made.keeps b ob ho
        have e' : h'.get? b = some o := e
        rw [q] at e'; cases e'; exact ho
    exact PySem.W.hideAll_get _ e1 hb
  · have J := I.call' (s' := s') (ch := []) os un hok bare (fun b z => absurd z (by simp))
    exact wpAny_leaves_onW hfr hf fl fun h'' fl' sm => fin J up ha fl' sm fun b o hb ho e => hk b o (by show b ∉ frs (env :: outer); rw [hst]; exact hb) ho e
  · have J := I.call' (s' := s') (ch := ch) os un hok bare hch
    have eL : s.heap.objs.size = L' := Option.some.inj (hf.symm.trans hL)
    rw [<- eL] at fl
    refine wpAny_bind (wpAny_noteFrame_againW hf fl.2.2.2 (wpAny_landsW fl fun h'' fl' sm => ?_))
    obtain ⟨k1, k2, ⟨_, _, k3⟩, k4⟩ := fl'
    exact fin J up ha ⟨k1, k2, k3, k4⟩ sm fun b o hb ho e => hk b o (by show b ∉ frs (env :: outer); rw [hst]; exact hb) ho e

theorem jj {w:World} {K:PySem.W.Frag} {mg:Str->Option Value} {base:Heap} {N:List Str} {A:Around} {outer:List Env} {E:XK} {e:Value}
 (fl:FlyS (cS (CXo P w) P w K mg base N qual scope f cd A outer s H E) G H Z C e s') (hE:∀ G' H',Up G H G' H'->E (.ref C) none H'):(cS (CXo P w) P w K mg base N qual scope f cd A outer s H E).xe e s':=
 zv (env:=envOfC qual scope s.heap.objs.size f cd) (fn:=fun _=>true) rfl rfl fl hE
def aN (n:Nat) (ds:List D):Ev:=ds.map (fun d=>some (.val d))++List.replicate (n - ds.length) none
def aK (o:O):R D:=match o with
 | .rt d=>.ok d
 | .re d _=>.ok d
 | .nx _=>.ok .non
 | .ex C _=>.ex C
 | _=>.no
theorem pY {K:PySem.W.Frag} {N:List Str} (sub:Same G H) (r:Reps K G vs ds):StR K G H G H (eD N vs) (aN N.length ds):=by
 have hl:=r.length
 have get:∀ (i:Nat) x,(aN N.length ds)[i]?=some (some x)->∃ d,ds[i]?=some d/\x=.val d:=fun i x e=>by
  unfold aN at e
  by_cases hi:i<ds.length
  ·rw [List.getElem?_append_left (by simpa using hi),List.getElem?_map] at e
   cases q:ds[i]? with
   | none=>rw [q] at e;cases e
   | some d=>rw [q] at e;cases e;exact ⟨d,rfl,rfl⟩
  ·rw [List.getElem?_append_right (by simpa using hi),List.getElem?_replicate] at e
   split at e <;> cases e
 have no:NoOwn (aN N.length ds):=fun i x e=>by obtain ⟨d',_,q⟩:=get i _ e;exact ⟨d',q⟩
 refine ⟨⟨sub,by simp [eD,aN,hl],fun i d e=>?_,fun i m C p fs e=>absurd e (no.obj i m C p fs)⟩,sub,.refl sub,fun i es e=>?_,fun i j es fs l e=>?_,no.ob⟩
 ·obtain ⟨d',e',q⟩:=get i _ e
  cases q
  obtain ⟨v,ev,rv⟩:=r.get e'
  refine ⟨v,?_,rv⟩
  unfold eD
  rw [List.getElem?_append_left (by have:=(List.getElem?_eq_some_iff.mp ev).1;simpa using this),List.getElem?_map,ev]
  rfl
 ·obtain ⟨d',_,q⟩:=get i _ e;cases q
 ·obtain ⟨d',_,q⟩:=get i _ e;cases q
end L2
namespace L2
open PySem PySem.Spec PyProof.Rows
theorem nH:fillsNumberSlot (.type "tuple") "mul"=pure false:=
 PySem.fillsNumberSlot_seq (id:="tuple.__mul__") (r:=some (.builtin "tuple.__rmul__")) F.slot_tuple_mul.lookup (by decide +kernel) F.slot_tuple_rmul.lookup (by decide +kernel)
theorem Cd:seqRepeat? (.type "tuple")=pure (some (.builtin "tuple.__mul__")):=by
 unfold seqRepeat?
 rw [PySem.seqSlot_of (T:="tuple") (name:="__mul__") (id:="tuple.__mul__") F.slot_tuple_mul.lookup (by decide +kernel),PySem.seqSlot_of (T:="tuple") (name:="__rmul__") (id:="tuple.__rmul__") F.slot_tuple_rmul.lookup (by decide +kernel)]
 rfl
open Builtin in
theorem rV (a:Int) (t:Tok) (l:Addr) (items:Array Value) (n:Nat) (dd:Option Addr) (sl:Array (Option Value)) :
  Meets (Builtin.«int.__rmul__» ⟨[.int a t,.ref l],[]⟩) (fun _ Rr s=>s.heap.get? l=some { cls:=.type "tuple",dict:=dd,data:=.seq items n,slots:=sl }/\Rr (.ok (.ret Value.notImplemented)) s):=
 .of_wp fun prog w A Rr s h=>by obtain ⟨hp,g,d,tk,os⟩:=s;obtain ⟨hl,h⟩:=h;wp_walk;exact ⟨_,rfl,h⟩
section
open Builtin AutoSeq1
variable (l:Addr) (items:Array Value) (n:Nat) (dd:Option Addr) (sl:Array (Option Value)) (x:Int) (u:Tok) (h1:(decide (x < -(2 ^ 63)) || decide (x ≥ 2 ^ 63))=false)
include h1
theorem zS (hc:(items.isEmpty || x==1)=true) :
  Meets (Builtin.«tuple.__mul__» ⟨[.ref l,.int x u],[]⟩) (fun _ Rr s=>s.heap.get? l=some { cls:=.type "tuple",dict:=dd,data:=.seq items n,slots:=sl }/\Rr (.ok (.ret (.ref l))) s):=
 .of_wp fun prog w A Rr s h=>by
  obtain ⟨hp,g,d,tk,os⟩:=s;obtain ⟨hl,h⟩:=h
  have f1:=idx_int
  wp_walk
  refine wpAny_ite_false (by rw [h1];rfl) ?_
  refine wpAny_bind (tupleItemsOf_ (show IsTup hp l items from ⟨_,hl,rfl,n,rfl⟩) ?_)
  dsimp only
  rw [if_pos hc]
  unfold Tuple.tupleIsExact
  refine wpAny_bind (wpAny_bind (wpAny_typeOf ⟨_,hl,rfl⟩ (wpAny_pure ?_)))
  rw [if_pos (by decide)]
  exact wpAny_bind (wpAny_rule (wpAny_pure ⟨_,rfl,h⟩))
theorem AA (hc : ¬ (items.isEmpty || x==1)=true) (h2:(decide (x<=0) || items.isEmpty)=true) :
  Meets (Builtin.«tuple.__mul__» ⟨[.ref l,.int x u],[]⟩) (fun _ Rr s=>s.heap.get? l=some { cls:=.type "tuple",dict:=dd,data:=.seq items n,slots:=sl }/\Rr (.ok (.ret (.ref s.heap.objs.size))) { s with heap:=s.heap.push { cls:=.type "tuple",data:=.seq #[] } }):=
 .of_wp fun prog w A Rr s h=>by
  obtain ⟨hp,g,d,tk,os⟩:=s;obtain ⟨hl,h⟩:=h
  have f1:=idx_int
  wp_walk
  refine wpAny_ite_false (by rw [h1];rfl) ?_
  refine wpAny_bind (tupleItemsOf_ (show IsTup hp l items from ⟨_,hl,rfl,n,rfl⟩) ?_)
  dsimp only
  rw [if_neg hc,if_pos h2]
  exact wpAny_bind (m:=Builtin.Tuple.tupleExact _) (wpAny_newObj_type (wpAny_pure ⟨_,rfl,h⟩) (Nat.zero_le _))
theorem zW (hc : ¬ (items.isEmpty || x==1)=true) (h2 : ¬ (decide (x<=0) || items.isEmpty)=true) (hz:items.size * x.toNat<=sizeLine) :
  Meets (Builtin.«tuple.__mul__» ⟨[.ref l,.int x u],[]⟩) (fun _ Rr s=>s.heap.get? l=some { cls:=.type "tuple",dict:=dd,data:=.seq items n,slots:=sl }/\
   Rr (.ok (.ret (.ref s.heap.objs.size))) { s with heap:=s.heap.push { cls:=.type "tuple",data:=.seq (List.foldl (fun x1 x2=>x1++x2) #[] (List.replicate x.toNat items)) } }):=
 .of_wp fun prog w A Rr s h=>by
  obtain ⟨hp,g,d,tk,os⟩:=s;obtain ⟨hl,h⟩:=h
  have f1:=idx_int
  have hx:0<x:=by
   cases q:decide (x<=0) with
   | true=>rw [q] at h2;exact absurd rfl h2
   | false=>exact Int.not_le.mp (of_decide_eq_false q)
  have ez:(items.size:Int) * x=((items.size * x.toNat:Nat):Int):=by
   rw [Int.natCast_mul,Int.toNat_of_nonneg (Int.le_of_lt hx)]
  have hlim:(sizeLine:Nat)<=(2 ^ 63 - 1) / 8:=by decide
  have h3 : ¬ ((items.size:Int) * x > (2 ^ 63 - 1) / 8):=by
   rw [ez]
   have:((sizeLine:Nat):Int)<=(2 ^ 63 - 1) / 8:=by decide
   omega
  have h4 : ¬ (Tuple.tupleTooMany ((items.size:Int) * x)=true):=by
   unfold Tuple.tupleTooMany
   rw [ez]
   intro q
   have:=of_decide_eq_true q
   omega
  have hfz:(List.foldl (fun x1 x2=>x1++x2) #[] (List.replicate x.toNat items)).size<=sizeLine:=by
   have e:=jD items.toList x.toNat []
   simp only [List.nil_append,Array.toArray_toList] at e
   rw [e,List.size_toArray,pG,Array.length_toList,Nat.mul_comm]
   exact hz
  wp_walk
  refine wpAny_ite_false (by rw [h1];rfl) ?_
  refine wpAny_bind (tupleItemsOf_ (show IsTup hp l items from ⟨_,hl,rfl,n,rfl⟩) ?_)
  dsimp only
  rw [if_neg hc,if_neg h2,if_neg h3,if_neg h4]
  exact wpAny_bind (m:=Builtin.Tuple.tupleExact _) (wpAny_newObj_type (wpAny_pure ⟨_,rfl,h⟩) hfz)
end
section
variable {X:Cx}
noncomputable def Ew (K:PySem.W.Frag):R2:=fun x y H Q=>∃ l k xs,x=.ref l/\y=.int k/\SqT K H l xs/\-(2 ^ 63)<=k/\k<2 ^ 63/\xs.length * k.toNat<=sizeLine/\
 (xs=[]\/k=1->Q (.ref l) H)/\(xs≠[]->k≠1->∀ p,H p=none->Q (.ref p) (upd H p (.tup (List.replicate k.toNat xs).flatten)))
theorem op_repT:OpR X (binaryOp .Mult) (Ew X.K):=by
 intro pins s σ H x y v u Q I rx ry h
 obtain ⟨l,k,xs,rfl,rfl,hH,h1,h2,hz,q0,q1⟩:=h
 cases rx
 obtain ⟨t,rfl⟩:=ry
 obtain ⟨its,r,p,hzz⟩:=I.tuple hH
 obtain ⟨⟨cls,dd,data,sl⟩,ho,hc,n,hd⟩:=id p
 simp only at hc hd
 subst hc hd
 have hlen:its.length=xs.length:=r.length.symm
 have hin:(decide (k < -(2 ^ 63)) || decide (k ≥ 2 ^ 63))=false:=by
  rw [decide_eq_false (by omega),decide_eq_false (by omega)];rfl
 have emp:its.toArray.isEmpty=decide (xs=[]):=by
  cases its with
  | nil=>cases r;rfl
  | cons a b=>cases r;rfl
 refine wpAny_binaryOp_repeat_ref (T:="tuple") (U:="int") (by decide) ⟨_,ho,rfl⟩ (fun s'=>typeIs_int s' k t) nH F.fills_int_mul F.slot_int_rmul Cd F.slot_int_index.lookup
  (call_meets F.slot_int_rmul (typeIs_int s k t) F.entry_int_rmul (F.args_int_rmul_2 _ _) (rV k t l its.toArray n dd sl) ⟨ho,rfl,⟨_,ho,rfl⟩,?_⟩)
 by_cases hc:(its.toArray.isEmpty || k==1)=true
 ·refine call_meets F.slot_tuple_mul ⟨_,ho,rfl⟩ F.entry_tuple_mul (F.args_tuple_mul_2 _ _) (zS l its.toArray n dd sl k t hin hc) ⟨ho,.ref l,H,I,rfl,q0 ?_⟩
  rw [emp] at hc
  simpa using hc
 ·have hne:xs≠[]/\k≠1:=by
   rw [emp] at hc
   simpa using hc
  have fin:∀ its',its'=(List.replicate k.toNat its).flatten->EP X pins σ Q (.ref s.heap.objs.size) { s with heap:=s.heap.push { cls:=.type "tuple",data:=.seq its'.toArray } }:=fun its' e=>by
   subst e
   refine ⟨.ref s.heap.objs.size,_,I.laid (t':=s.toks) (o:=.tup (List.replicate k.toNat xs).flatten) (fun b ob q=>Heap.get?_push_of_some _ q) (Nat.le_refl _) ?_,rfl,q1 hne.1 hne.2 _ I.fresh⟩
   exact ⟨by rw [pG,Nat.mul_comm];exact hz,_,r.rep k.toNat,IsTup.new _ _⟩
  by_cases h0:(decide (k<=0) || its.toArray.isEmpty)=true
  ·refine call_meets F.slot_tuple_mul ⟨_,ho,rfl⟩ F.entry_tuple_mul (F.args_tuple_mul_2 _ _) (AA l its.toArray n dd sl k t hin hc h0) ⟨ho,?_⟩
   refine fin [] ?_
   have:k<=0:=by
    rw [emp,decide_eq_false hne.1,Bool.or_false] at h0
    exact of_decide_eq_true h0
   rw [Int.toNat_of_nonpos this]
   rfl
  ·refine call_meets F.slot_tuple_mul ⟨_,ho,rfl⟩ F.entry_tuple_mul (F.args_tuple_mul_2 _ _) (zW l its.toArray n dd sl k t hin hc h0 (by rw [List.size_toArray,hlen];exact hz)) ⟨ho,?_⟩
   have e:=jD its k.toNat []
   simp only [List.nil_append] at e
   rw [e]
   exact fin _ rfl
theorem Du (x:Str) (n:Int):(Txt.mul x n).cps.toList=(List.replicate n.toNat x.cps.toList).flatten:=by
 unfold Txt.mul
 by_cases h1:n<1
 ·rw [if_pos h1,Int.toNat_of_nonpos (by omega)];rfl
 ·rw [if_neg h1]
  by_cases h2:(n==1 || x.length==0)=true
  ·rw [if_pos h2]
   rcases Bool.or_eq_true_iff.mp h2 with h|h
   ·have:n=1:=by simpa using h
    subst this
    show _=(List.replicate 1 x.cps.toList).flatten
    simp
   ·have:x.cps.toList=[]:=List.eq_nil_of_length_eq_zero (by rw [Str.len_list];simpa using h)
    rw [this];simp
  ·rw [if_neg h2]
   have:∀ (m:Nat) (acc:Array Nat),((List.replicate m x.cps).foldl (·++·) acc).toList=acc.toList++(List.replicate m x.cps.toList).flatten:=by
    intro m
    induction m with
    | zero=>intro acc;simp
    | succ m ih=>intro acc;rw [List.replicate_succ,List.foldl_cons,ih,List.replicate_succ,List.flatten_cons];simp
   simpa using this n.toNat #[]
theorem op_mul_str:OpR X (binaryOp .Mult) (fun x y H Q=>∃ (i:Str) (k:Int),x=.str i/\y=.int k/\-(2 ^ 63)<=k/\k<2 ^ 63/\i.length * k.toNat<=sizeLine/\Q (.str (Txt.mul i k)) H):=by
 intro pins s σ H x y v u Q I rx ry h
 obtain ⟨i,k,rfl,rfl,h1,h2,hz,q⟩:=h
 obtain ⟨t,rfl⟩:=rx
 obtain ⟨t',rfl⟩:=ry
 refine SB.mul ⟨by rw [decide_eq_false (by omega),decide_eq_false (by omega)];rfl,fun h3 h4=>?_,fun h3 h4=>?_⟩ fun t'' n=>⟨.str _,H,I.tok _,⟨_,rfl⟩,q⟩
 ·have hk:0<k:=by omega
  intro h5
  have h6:(2 ^ 63 - 1) / k * k<=2 ^ 63 - 1:=Int.ediv_mul_le _ (by omega)
  have h7:(((i.length * k.toNat:Nat)):Int)=(i.length:Int) * k:=by rw [Int.natCast_mul,Int.toNat_of_nonneg (by omega)]
  have h8:((2 ^ 63 - 1) / k+1) * k<=(i.length:Int) * k:=Int.mul_le_mul_of_nonneg_right (by omega) (by omega)
  have h9:2 ^ 63 - 1<((2 ^ 63 - 1) / k+1) * k:=Int.lt_ediv_add_one_mul_self _ hk
  have h10:((sizeLine:Nat):Int)<2 ^ 63 - 1:=by decide
  omega
 ·unfold Builtin.Str.tooLong
  exact decide_eq_false (by omega)
noncomputable def fF:D->D->Option D
 | .int i,.int j=>if (-(2 ^ 64)<i/\i<2 ^ 64)\/(-(2 ^ 64)<j/\j<2 ^ 64) then some (.int (i * j)) else none
 | .str x,.int k=>if -(2 ^ 63)<=k/\k<2 ^ 63/\x.length * k.toNat<=sizeLine then some (.str (List.replicate k.toNat x).flatten) else none
 | .tup xs,.int k=>if -(2 ^ 63)<=k/\k<2 ^ 63/\xs.length * k.toNat<=sizeLine then some (.tup (List.replicate k.toNat xs).flatten) else none
 | .lst false xs,.int k=>if -(2 ^ 63)<=k/\k<2 ^ 63/\xs.length * k.toNat<=sizeLine then some (.lst false (List.replicate k.toNat xs).flatten) else none
 | _,_=>none
noncomputable def E6 (K:PySem.W.Frag):R2:=fun x y H Q=>rI CMul (fun i j=>.int (i * j)) x y H Q\/(∃ (i:Str) (k:Int),x=.str i/\y=.int k/\-(2 ^ 63)<=k/\k<2 ^ 63/\i.length * k.toNat<=sizeLine/\Q (.str (Txt.mul i k)) H)\/Ew K x y H Q\/Iw x y H Q
theorem Db:OpR X (binaryOp .Mult) (E6 X.K):=op_mul.or (op_mul_str.or (op_repT.or FJ))
theorem Ei (K:PySem.W.Frag):ROk K (E6 K) fF:=by
 intro G H x y dx dy d Q s rx ry e q
 unfold fF at e
 split at e
 ·split at e
  ·rename_i hc
   cases e
   exact .inl ⟨_,_,rx.int_inv,ry.int_inv,hc,q _ G H (.refl s) (.int _)⟩
  ·cases e
 ·split at e
  ·rename_i hc
   cases e
   obtain ⟨i,rfl,ei,hi⟩:=rx.str_inv
   subst ei
   rw [Str.len_list] at hc
   exact .inr (.inl ⟨i,_,rfl,ry.int_inv,hc.1,hc.2.1,hc.2.2,q _ G H (.refl s) (.strL (Du i _) (by rw [pG,Str.len_list,Nat.mul_comm];exact hc.2.2))⟩)
  ·cases e
 ·split at e
  ·rename_i k hc
   cases e
   obtain ⟨a,vs,rfl,ha,ra⟩:=rx.tup_inv
   refine .inr (.inr (.inl ⟨a,_,vs,rfl,ry.int_inv,ha.mono s,hc.1,hc.2.1,by rw [ra.length];exact hc.2.2,fun z=>?_,fun _ _ p hp=>q _ _ _ (.new s hp) (.tup (.of aX) ((ra.rep _).mono (.into (s.free hp))))⟩))
   rcases z with z|z
   ·subst z
    cases ra
    have e:(List.replicate k.toNat ([]:List D)).flatten=[]:=by simp
    rw [e] at q
    exact q _ G H (.refl s) (.tup ha .nil)
   ·subst z
    have e:∀ l:List D,(List.replicate (1:Int).toNat l).flatten=l:=fun l=>by show (List.replicate 1 l).flatten=l;simp
    rw [e] at q
    exact q _ G H (.refl s) (.tup ha ra)
  ·cases e
 ·split at e
  ·rename_i hc
   cases e
   obtain ⟨a,vs,rfl,ha,ra⟩:=rx.lst_inv
   exact .inr (.inr (.inr ⟨a,_,vs,rfl,ry.int_inv,s _ _ ha,hc.1,hc.2.1,by rw [ra.length];exact hc.2.2,fun p hp=>q _ _ _ (.new s hp) (.lst aX ((ra.rep _).mono (.into (s.free hp))))⟩))
  ·cases e
 ·cases e
end
end L2
namespace L2
open PySem PySem.W PySem.Spec PySem.Calls PyProof.Rows
structure ExcCls (K:Frag) (C:Addr):Prop where
 ga:findIn K (.ref C) "__getattribute__"=some (some (.builtin "BaseException.__getattribute__"))
 gt:findIn K (.ref C) "__getattr__"=some none
 cl:findIn K (.ref C) "__class__"=some (some (.builtin "object.__class__"))
 sp:specialIn K (.builtin "object.__class__") "__get__"=some (some (.builtin "getset_descriptor.__get__"))
 tk:takesIn K (.builtin "object.__class__")=some true
 mo:mroIn K C (.type "object")=some true
 be:subIn K (.ref C) (.type "BaseException")=some true
 some:(clsIn K C).isSome=true
section
variable {prog:Program} {w:World} {A:Around} {E:Value->Shared->Prop} {s:Shared} {K:Frag} {a C:Addr}
section
open Builtin Builtin.ObjectAttr Builtin.Getset_descriptor
theorem Cw {tp:Value} {Rr:Result->Shared->Prop} (X:K.In s.heap) (L0:Looks (model prog w) s.heap (typeOf (.ref a)) (.ref C)) (hm:mroIn K C (.type "object")=some true) (h:Rr (.ok (.ret (.ref C))) s) :
  codeAny (model prog w) A (.call (.builtin "getset_descriptor.__get__") ⟨[.builtin "object.__class__",.ref a,tp],[]⟩) Rr s:=by
 obtain ⟨hh,gg,dd,tt,oo⟩:=s
 have L1:=looks_mroIn (M:=model prog w) X hm
 refine codeAny_call_builtin KF.slot_gs.plain KF.entry_gs
  (KF.slot_gs.check _ _ _ _ _ _ _ _ KF.type_class (KF.args_gs _ _ _) ?_)
 unfold Builtin.«getset_descriptor.__get__» descrGet
 rw [dga_obj]
 refine wpAny_bind (wpAny_pure ?_)
 unfold descrGetter descrCheckInstance descrNameAndClass isInstance
 simp only [KF.owner_class]
 repeat lk
 refine ⟨Code.quiet_builtin _ (by decide +kernel),
  codeAny_builtin KF.entry_class ?_⟩
 unfold Builtin.«object.__class__» shownTypeOf
 repeat lk
 exact h
end
theorem yt {Q:Option Value->Shared->Prop} (X:K.In s.heap) (T:ExcCls K C) (L0:Looks (model prog w) s.heap (typeOf (.ref a)) (.ref C))
 (h:Q (some (.ref C)) { s with toks:=s.toks+1 }):wpAny (model prog w) A (getAttr? (.ref a) "__class__") Q E s:=by
 obtain ⟨hh,g,d,t,os⟩:=s
 have L1:=looks_findIn (M:=model prog w) X T.ga
 have L2:=looks_findIn (M:=model prog w) X T.gt
 have L3:Looks (model prog w) hh (Builtin.ObjectAttr.find (.ref a) (.ref C) "__class__") (.bind (.builtin "getset_descriptor.__get__") (.builtin "object.__class__")):=by
  have M1:=looks_findIn (M:=model prog w) X T.cl
  have M2:Looks (model prog w) hh (Builtin.ObjectAttr.getOf (some (.builtin "object.__class__"))) (some (.builtin "getset_descriptor.__get__")):=looks_specialIn X T.sp
  have M3:=looks_takesIn (M:=model prog w) X T.tk
  refine M1.andThen (M2.andThen ?_)
  exact (show Looks (model prog w) hh (Builtin.ObjectAttr.dataDescriptor? (some (.builtin "object.__class__")) (some (.builtin "getset_descriptor.__get__"))) (some (.builtin "getset_descriptor.__get__",.builtin "object.__class__")) from M3.andThen .now).andThen (Looks.tag .now)
 unfold getAttr? getAttrBy? getAttrBy
 refine wpAny_bind (wpAny_mkText (wpAny_bind (wpAny_attempt (wpAny_holding (wpAny_bind (L0.at (wpAny_bind (L1.at ?_))))))))
 have hx2:(Value.builtin "BaseException.__getattribute__"==Value.builtin "object.__getattribute__")=false:=by decide +kernel
 dsimp only
 rw [if_neg (by rw [hx2,Bool.and_false];exact Bool.false_ne_true)]
 unfold getAttrByItsOwn hookBefore
 rw [if_pos (show onTheHeap (Value.ref C)=true from rfl)]
 refine wpAny_bind (L2.at ?_)
 refine wpAny_bind (wpAny_attempt (wpAny_holding ?_))
 unfold callGetattribute
 rw [if_neg (by rw [Bool.false_and];exact Bool.false_ne_true)]
 unfold boundAndCalled
 rw [F.attr_ValueError.ga.bind (.ref a)]
 refine wpAny_bind (wpAny_pure ?_)
 show wpAny _ _ (call (.builtin "BaseException.__getattribute__") [.ref a,.str "__class__" t]) _ _ _
 have LB:Looks (model prog w) hh (isInstance (.ref a) (.type "BaseException")) true:=L0.andThen (looks_subIn X T.be)
 have hk:builtinKind "BaseException.__getattribute__"=some .slot:=by decide +kernel
 have hsp:splitId "BaseException.__getattribute__"=some ("BaseException","__getattribute__"):=by decide +kernel
 have ha:=F.args_bexc_ga (.ref a) (.str "__class__" t)
 refine wpAny_call (codeAny_call_builtin F.attr_ValueError.ga.plain F.entry_bexc_ga ?_)
 simp only [checkBuiltinCall,hk,hsp]
 refine wpAny_bind (LB.at ?_)
 rw [if_neg (by decide)]
 refine wpAny_of_eq (a:=()) ha ?_
 unfold Builtin.«object.__getattribute__»
 refine wpAny_bind (wpAny_pure ?_)
 refine wpAny_bind (wpAny_pure ?_)
 refine wpAny_bind (L0.at ?_)
 refine wpAny_bind (L3.at ?_)
 show wpAny _ _ (Builtin.ObjectAttr.bindTo (.builtin "getset_descriptor.__get__") (.builtin "object.__class__") (.ref a) (.ref C)) _ _ _
 unfold Builtin.ObjectAttr.bindTo
 dsimp only
 exact wpAny_bind (wpAny_holding (wpAny_call (Cw (s:=⟨hh,g,d,t+1,os⟩) X L0 T.mo (wpAny_pure (handed_on rfl (wpAny_pure h))))))
theorem Aq (T:ExcCls K C):KitX K (.ref a) (.ref C) (fun h=>∃ ob,h.get? a=some ob/\ob.cls=.ref C) where
 ty:=fun M h _ p=>by
  obtain ⟨o,h1,h2⟩:=p
  exact h2 ▸ (Looks.ld h1).andThen .now
 it:=fun M h X _=>by
  have z:=T.some
  unfold clsIn at z
  split at z
  ·rename_i c' d' cd' sl' ho
   intro A' Q' E' s' k q
   unfold isType loadHead
   exact wpAny_bind (wpAny_loadPart (k _ _ (X _ _ ho)) (wpAny_pure q))
  ·cases z
 ne:=fun h tp dd its n sl X htp=>by
  refine Bool.eq_false_iff.mpr fun q=>?_
  have e:C=tp:=Value.ref.inj (beq_iff_eq.mp q)
  subst e
  have z:=T.some
  unfold clsIn at z
  split at z
  ·rename_i c' d' cd' sl' ho
   cases (X _ _ ho).symm.trans htp
  ·cases z
 ca:=fun {prog w A E Q s} X p k=>by
  obtain ⟨o,h1,h2⟩:=p
  exact yt X T (h2 ▸ (Looks.ld h1).andThen .now) k
end
section
variable {X:Cx} {pins:List (Addr×Obj)} {σ:St} {G H:Hp} {s:Shared} {A:Around} {E:Value->Shared->Prop} {Q:Value->Shared->Prop}
def tyN:D->Option String
 | .non=>some "NoneType"
 | .bl _=>some "bool"
 | .int _=>some "int"
 | .str _=>some "str"
 | .tup _=>some "tuple"
 | .lst _ _=>some "list"
 | .exc _=>none
theorem Ge {x:V} {c:Value} {T:String} {b:Bool} (I:Inv X pins σ H s) (sub:Same G H) (r:Rep X.K G x d) (ru:RelV x u) (ht:tyN d=some T) (e:kitOne X.K (.type T) c=some b) (h:∀ tk,Q (.bool b) { s with toks:=tk }) :
  wpAny (model X.prog X.w) A (call (.builtin "isinstance") [u,c]) Q E s:=by
 cases r with
 | non=>cases ht;cases ru;exact kia_one kitx_none I.kIn True.intro e (fun z=>nomatch z) h
 | bl y=>cases ht;cases ru;exact kia_one kitx_bool I.kIn True.intro e (fun z=>nomatch z) h
 | int i=>cases ht;obtain ⟨t,rfl⟩:=ru;exact kia_one kitx_int I.kIn True.intro e (fun z=>nomatch z) h
 | str y hy=>cases ht;obtain ⟨t,rfl⟩:=ru;exact kia_one kitx_str I.kIn True.intro e (fun z=>nomatch z) h
 | tup hh t=>
  cases ht;cases ru
  obtain ⟨its,rv,⟨o,h1,h2,_⟩,_⟩:=I.tuple (hh.mono sub)
  exact kia_one kitx_tuple I.kIn ⟨o,h1,h2⟩ e (fun z=>nomatch z) h
 | lst hh t=>
  cases ht;cases ru
  obtain ⟨its,rv,⟨o,n,h1,h2,_⟩,_⟩:=I.list ((SqL.of hh:SqL X.K G _ _).mono sub)
  exact kia_one kitx_list I.kIn ⟨o,h1,h2⟩ e (fun z=>nomatch z) h
 | fls hh t=>
  cases ht;cases ru
  obtain ⟨its,rv,⟨o,n,h1,h2,_⟩,_⟩:=I.list (hh.mono sub)
  exact kia_one kitx_list I.kIn ⟨o,h1,h2⟩ e (fun z=>nomatch z) h
 | exc hh=>cases ht
theorem AZ {x:V} {c:Value} {b:Bool} (I:Inv X pins σ H s) (sub:Same G H) (r:Rep X.K G x (.exc C)) (ru:RelV x u) (T:ExcCls X.K C) (e:kitOne X.K (.ref C) c=some b) (h:∀ tk,Q (.bool b) { s with toks:=tk }) :
  wpAny (model X.prog X.w) A (call (.builtin "isinstance") [u,c]) Q E s:=by
 obtain ⟨a,rfl,hh⟩:=r.exc_inv
 cases ru
 obtain ⟨h1,_,_⟩:=(show ObjOk X.prog X.w H s.heap a (.ext (hW a C)) from I.hok a _ (sub _ _ hh))
 exact kia_one (Aq T) I.kIn h1 e (fun z=>nomatch z) h
end
section
variable {X:Cx} {e:Expr} {ga:Ev->R D} {y:Str} {p p2 pos:Pos}
def lw (f:String->Bool) (d:D):R D:=match tyN d with
 | some t=>.ok (.bl (f t))
 | none=>.no
theorem jh {T:String} (f:String->Bool) (hf:∀ K:Frag,∀ t∈["NoneType","bool","int","str","tuple","list"],kitOne K (.type t) (.type T)=some (f t)) (hg:Gl X "isinstance") (hm:X.mg "isinstance"=none) (hg2:Gl X y) (hm2:X.mg y=none)
 (hv:bootBuiltins y=some (.type T)) (ha:QF X e ga) (hs1:starEach [e,.Name y p2] X.env=(false,eval e X.env)::starEach [.Name y p2] X.env:=by rfl)
 (hn:y ≠ "__name__":=by decide) (hdb:(y==("__debug__":Str))=false:=by decide) :
  QF X (.Call (.Name "isinstance" p) [e,.Name y p2] [] pos) (fun Z=>ga Z>>=lw f):=by
 intro pins s σ H Q I h
 have hc:jW X (.builtin "isinstance") (fun xs H Q=>∃ x G d,xs=[x,.ty T]/\Same G H/\Rep X.K G x d/\∃ t,tyN d=some t/\Q (.bl (f t)) H):=by
  intro pins s σ H xs us Q I r ⟨x,G,d,ex,sub,rd,t,et,q⟩
  subst ex
  obtain ⟨u,u2,rfl,r1,r2⟩:=r.two
  cases r2
  refine Ge I sub rd r1 et (hf X.K t ?_) fun tk=>⟨.bl (f t),H,I.tok tk,rfl,q⟩
  cases d <;> cases et <;> simp
 refine kZ hc hg hm PyProof.Rows.Boot.«isinstance» (bQ ha (bQ (xr (v:=.ty T) hg2 hm2 hv rfl hn hdb) fE) hs1) (by decide) (by decide) hs1 rfl pins s σ H Q I ?_
 obtain ⟨G,Z,st,h⟩:=h
 refine tG.intro st h fun x v G1 H1 u1 st1 r1 h1=>?_
 refine ⟨v,G1,x,rfl,st1.sub,r1,?_⟩
 unfold lw at h1
 cases et:tyN x with
 | none=>rw [et] at h1;exact h1.elim
 | some t=>rw [et] at h1;exact ⟨t,rfl,h1 _ G1 H1 (.refl st1.sub) (.bl _)⟩
def nG (f:Addr->Option Bool) (d:D):R D:=match d with
 | .exc C=>ofO ((f C).map .bl)
 | _=>.no
theorem rT {v2:V} {u2:Value} (f:Addr->Option Bool) (hf:∀ C b,f C=some b->ExcCls X.K C/\kitOne X.K (.ref C) u2=some b) (hg:Gl X "isinstance") (hm:X.mg "isinstance"=none) (hy:PE X (.Name y p2) (tC v2)) (hr:RelV v2 u2) (hr2:∀ u,RelV v2 u->u=u2)
 (ha:QF X e ga) (hs1:starEach [e,.Name y p2] X.env=(false,eval e X.env)::starEach [.Name y p2] X.env:=by rfl) :
  QF X (.Call (.Name "isinstance" p) [e,.Name y p2] [] pos) (fun Z=>ga Z>>=nG f):=by
 intro pins s σ H Q I h
 have hc:jW X (.builtin "isinstance") (fun xs H Q=>∃ x G C b,xs=[x,v2]/\Same G H/\Rep X.K G x (.exc C)/\f C=some b/\Q (.bl b) H):=by
  intro pins s σ H xs us Q I r ⟨x,G,C,b,ex,sub,rd,ef,q⟩
  subst ex
  obtain ⟨u,w,rfl,r1,r2⟩:=r.two
  obtain rfl:=hr2 w r2
  exact AZ I sub rd r1 (hf C b ef).1 (hf C b ef).2 fun tk=>⟨.bl b,H,I.tok tk,rfl,q⟩
 refine kZ hc hg hm PyProof.Rows.Boot.«isinstance» (bQ ha (bQ hy fE) hs1) (by decide) (by decide) hs1 rfl pins s σ H Q I ?_
 obtain ⟨G,Z,st,h⟩:=h
 refine tG.intro st h fun x v G1 H1 u1 st1 r1 h1=>?_
 cases x with
 | exc C=>
  cases ef:f C with
  | none=>simp only [nG,ef] at h1;exact h1.elim
  | some b=>
   simp only [nG,ef] at h1
   exact ⟨v,G1,C,b,rfl,st1.sub,r1,ef,h1 _ G1 H1 (.refl st1.sub) (.bl b)⟩
 | _=>exact h1.elim
end
end L2
namespace L2
open PySem PySem.Spec PyProof.Rows
def vK:List D->Option (List Bool)
 | []=>some []
 | .bl b::ds=>(vK ds).map (b::·)
 | _=>none
theorem Reps.bls {K:PySem.W.Frag}:∀ {vs:List V} {ds:List D} {bs:List Bool},Reps K G vs ds->vK ds=some bs->vs=bs.map .bl
 | _,_,bs,.nil,e=>by cases e;rfl
 | _,_,bs,.cons r t,e=>by
  cases r with
  | bl b=>
   rename_i ds
   unfold vK at e
   cases q:vK ds with
   | none=>rw [q] at e;cases e
   | some cs=>rw [q] at e;cases e;rw [Reps.bls t q];rfl
  | _=>simp [vK] at e
theorem Vals.bls:∀ {bs:List Bool} {us:List Value},Vals (bs.map V.bl) us->us=bs.map Value.bool
 | [],_,.nil=>rfl
 | b::bs,_,.cons r t=>by rw [Vals.bls t,show _=Value.bool b from r];rfl
section
variable {X:Cx} {e o:Expr} {es:List Expr} {ga gb:Ev->R D} {gl:Ev->R (List D)} {pos:Pos}
def JQ (K:PySem.W.Frag) (f:List Bool->Bool):List V->Hp->VK->Prop:=fun xs H Q=>∃ p bs,xs=[.ref p]/\SqL K H p (bs.map V.bl)/\Q (.bl (f bs)) H
theorem yn (A:Around) (prog:Program) (w:World) (bs:List Bool):TruthOf prog w A (fun i v=>(bs.map Value.bool).toArray[i]?=some v) (fun i=>bs.getD i true):=by
 intro i v s Q E hP hQ
 rw [List.getElem?_toArray,List.getElem?_map] at hP
 cases q:bs[i]? with
 | none=>rw [q] at hP;cases hP
 | some b=>
  rw [q] at hP
  cases hP
  have e:bs.getD i true=b:=by rw [List.getD_eq_getElem?_getD,q];rfl
  have hQ:Q (bs.getD i true) s:=hQ
  rw [e] at hQ
  exact wpAny_truthy_bool hQ
theorem zw (hc:X.calm=true):jW X (.builtin "all") (JQ X.K fun bs=>bs.all id):=by
 intro pins s σ H xs us Q I r ⟨p,bs,ex,hs,q⟩
 subst ex
 obtain ⟨u,rfl,r1⟩:=r.one
 cases r1
 obtain ⟨its,rv,pl,hz⟩:=I.list hs
 obtain rfl:=rv.bls
 have hh:X.A.in1.handled=none:=I.ok.hd hc
 have hlt:p<s.heap.objs.size:=by obtain ⟨o,n,e,_⟩:=id pl;exact Heap.lt_size e
 refine call_all_walk (wpAny_pyIter_list pl.isList ?_)
 refine ⟨s.heap.objs.size,[s.heap.objs.size,p],[s.heap.objs.size],_,_,_,fun i=>bs.getD i true,rfl,Walks.list hh s.heap.objs.size p (Nat.ne_of_lt hlt) (bs.map Value.bool).toArray,⟨⟨_,Heap.get?_push_size _ rfl,rfl,rfl⟩,?_⟩,yn _ _ _ bs,fun h' tk hk=>?_⟩
 ·obtain ⟨o,n,e,c,_,d⟩:=id pl
  exact ⟨o,Heap.get?_push_of_some _ e,c,n,d⟩
 ·have e:(List.range (bs.map Value.bool).toArray.size).all (fun i=>bs.getD i true)=bs.all id:=by
   rw [List.size_toArray,List.length_map];exact lg rfl
  rw [e]
  refine ⟨.bl _,H,I.kept (t':=tk) fun b o eb=>hk b o (fun z=>?_) (Heap.get?_push_of_some _ eb),rfl,q⟩
  have:b=s.heap.objs.size:=by simpa using z
  exact Nat.lt_irrefl _ (this ▸ Heap.lt_size eb)
def DX:List D->Option D
 | [.lst _ ds]=>(vK ds).map fun bs=>.bl (bs.all id)
 | _=>none
theorem AU (hc:X.calm=true) (hg:Gl X "all") (hm:X.mg "all"=none) (ha:QFA X [e] gl) (he:starEach [e] X.env=[(false,eval e X.env)]:=by rfl):QF X (.Call (.Name "all" p) [e] [] pos) (fun Z=>gl Z>>=fun ds=>ofO (DX ds)):=
 oN (zw hc) (by
  intro G H xs ds d Q s r e q
  unfold DX at e
  split at e
  ·rename_i f ds
   obtain ⟨v,rfl,r1⟩:=r.one
   obtain ⟨a,vs,rfl,h,t⟩:=r1.seq_inv
   cases eb:vK ds with
   | none=>rw [eb] at e;cases e
   | some bs=>
    rw [eb] at e
    cases e
    obtain rfl:=t.bls eb
    exact ⟨a,bs,rfl,h.mono s,q _ G H (.refl s) (.bl _)⟩
  ·cases e) hg hm PyProof.Rows.Boot.«all» ha (he:=by rw [he];rfl)
noncomputable def DZ (K:PySem.W.Frag) (T:String) (r:V->List V->Hp->VK->Prop) (f:D->List D->Option D):Prop:=∀ (G H:Hp) (x:V) (xs:List V) (dx:D) (ds:List D) (d:D) (Q:VK),Same G H->Rep K G x dx->Reps K G xs ds->f dx ds=some d->Fin G H (Rep K) Q d->r x xs H Q
def jr (T:String):D->Bool
 | .str _=>T=="str"
 | .lst _ _=>T=="list"
 | _=>false
theorem iP {T id:String} {ap cp:Pos} {r:V->List V->Hp->VK->Prop} {f:D->List D->Option D} (pa:PlainAttrs T) (slot:PySem.Slot T name id) (hty:typeOf (.builtin id)=pure (.type "method_descriptor")) (hm:MtR X id r) (hf:DZ X.K T r f) (ho:QF X o ga) (ha:QFA X (e::es) gl)
 (hbase:attributeBase o name X.env (eval o X.env)=eval o X.env:=by rfl)
 (hfew:((backTo cp (starEach (e::es) X.env)).all (fun x=>!x.1) && (backToKw cp (keywordEach [] X.env)).all (fun x=>x.1.isSome)
 && decide ((e::es).length+([]:List Keyword).length+(if ([]:List Keyword).isEmpty then 0 else 1)<30))=true:=by rfl)
 (hline:(ap.endLine==cp.line)=true:=by rfl) (hs:starEach (e::es) X.env=(false,eval e X.env)::starEach es X.env:=by rfl) (hplain:(backTo cp (starEach es X.env)).any (·.1)=false:=by rfl) :
  QF X (.Call (.Attribute o name ap) (e::es) [] cp) (fun Z=>ga Z>>=fun x=>if jr T x=true then gl Z>>=fun ds=>ofO (f x ds) else .no):=by
 intro pins s σ H Q I h
 refine Ab pa slot hty hm ho ha hbase hfew hline hs hplain pins s σ H Q I ?_
 obtain ⟨G,Z,st,h⟩:=h
 refine tG.intro st h fun x v G1 H1 u1 st1 r1 h1=>?_
 by_cases hk:jr T x=true
 ·rw [if_pos hk] at h1
  have ty:tyV X.K T v H1:=by
   cases r1 with
   | str y hy=>exact show T="str" by simpa [jr] using hk
   | lst hh t=>exact .inl ⟨by simpa [jr] using hk,_,.of (st1.sub _ _ hh)⟩
   | fls hh t=>exact .inl ⟨by simpa [jr] using hk,_,hh.mono st1.sub⟩
   | _=>cases hk
  refine ⟨ty,tG.intro st1 h1 fun ds vs G2 H2 u2 st2 r2 h2=>?_⟩
  obtain ⟨d,e',q⟩:=ofO.ok h2
  exact hf G2 H2 v vs x ds d Q st2.sub (r1.mono u2.gg) r2 e' q
 ·rw [if_neg hk] at h1;exact h1.elim
theorem BB {A:Around} {bs:List Bool} (k:Bool):∀ y,y∈(bs.map Value.bool).toArray->SeqAt.EqAt A s y (.bool k) (y==.bool k):=fun y hy=>by
 obtain ⟨b,_,rfl⟩:=List.mem_map.mp (List.mem_toArray.mp hy)
 have:=SeqAt.EqAt.bool_bool (A:=A) (s:=s) b k
 have e:(Value.bool b==Value.bool k)=(b==k):=by cases b <;> cases k <;> rfl
 rw [e];exact this
def Bz (K:PySem.W.Frag):V->List V->Hp->VK->Prop:=fun x vs H Q=>∃ (l:Addr) (bs:List Bool) (k:Bool),x=.ref l/\vs=[.bl k]/\SqL K H l (bs.map V.bl)/\Q (.int (bs.count k:Nat)) H
theorem xR (bs:List Bool) (k:Bool):(bs.map Value.bool).countP (·==.bool k)=bs.count k:=by
 rw [List.countP_map]
 unfold List.count
 congr 1
 funext b
 cases b <;> cases k <;> rfl
theorem AI:MtR X "list.count" (Bz X.K):=by
 intro pins s σ H x xs v us Q I rx rv ⟨l,bs,k,ex,exs,hs,q⟩
 subst ex exs
 cases rx
 obtain ⟨u,rfl,r1⟩:=rv.one
 cases r1
 obtain ⟨its,rv',⟨⟨cls,dd,data,sl⟩,n,eo,c,_,d⟩,hz⟩:=I.list hs
 obtain rfl:=rv'.bls
 simp only at c d
 subst c d
 refine call_meets F.slot_list_count ⟨_,eo,rfl⟩ F.entry_list_count (F.args_list_count_2 _ _) (SeqAt.list_countAt l (bs.map Value.bool).toArray n dd sl (.bool k) (·==.bool k)) ⟨eo,BB k,?_⟩
 rw [List.toList_toArray,xR]
 exact ⟨.int _,H,I.tok _,⟨_,rfl⟩,q⟩
def lu:D->List D->Option D
 | .lst _ ds,[.bl k]=>(vK ds).map fun bs=>.int (bs.count k:Nat)
 | _,_=>none
theorem zJ (K:PySem.W.Frag):DZ K "list" (Bz K) lu:=by
 intro G H x xs dx ds d Q s rx rs e q
 unfold lu at e
 split at e
 ·rename_i f ds k
  obtain ⟨v,rfl,r1⟩:=rs.one
  obtain rfl:=r1.bl_inv
  obtain ⟨a,vs,rfl,h,t⟩:=rx.seq_inv
  cases eb:vK ds with
  | none=>rw [eb] at e;cases e
  | some bs=>
   rw [eb] at e
   cases e
   obtain rfl:=t.bls eb
   exact ⟨a,bs,k,rfl,rfl,h.mono s,q _ G H (.refl s) (.int _)⟩
 ·cases e
def BH (K:PySem.W.Frag):V->List V->Hp->VK->Prop:=fun x vs H Q=>∃ (l:Addr) (bs:List Bool) (k:Bool),x=.ref l/\vs=[.bl k]/\SqL K H l (bs.map V.bl)/\k∈bs/\Q (.int (bs.idxOf k:Nat)) H
theorem ot (k:Bool):∀ (bs:List Bool) (m:Nat),m<bs.idxOf k->bs[m]? ≠ some k
 | [],m,h=>by simp
 | b::bs,m,h=>by
  rw [List.idxOf_cons] at h
  cases hb:(b==k) with
  | true=>rw [hb] at h;exact absurd h (Nat.not_lt_zero _)
  | false=>
   rw [hb] at h
   cases m with
   | zero=>intro e;have e1:=Option.some.inj e;rw [e1,beq_self_eq_true] at hb;cases hb
   | succ m=>rw [List.getElem?_cons_succ];exact ot k bs m (Nat.lt_of_succ_lt_succ h)
theorem Ap:MtR X "list.index" (BH X.K):=by
 intro pins s σ H x xs v us Q I rx rv ⟨l,bs,k,ex,exs,hs,hk,q⟩
 subst ex exs
 cases rx
 obtain ⟨u,rfl,r1⟩:=rv.one
 cases r1
 obtain ⟨its,rv',⟨⟨cls,dd,data,sl⟩,n,eo,c,_,d⟩,hz⟩:=I.list hs
 obtain rfl:=rv'.bls
 simp only at c d
 subst c d
 have hlt:bs.idxOf k<bs.length:=List.idxOf_lt_length_iff.mpr hk
 have hsz:bs.length<=sizeLine:=by simpa using hz
 have h63:=nB
 have tob:∀ a b:Bool,(Value.bool a==Value.bool b)=(a==b):=fun a b=>by cases a <;> cases b <;> rfl
 refine call_meets F.slot_list_index ⟨_,eo,rfl⟩ F.entry_list_index (F.args_list_index_2 _ _) (SeqAt.list_indexAt l (bs.map Value.bool).toArray n dd sl (.bool k) (·==.bool k) (bs.idxOf k) (by simpa using hlt) (by omega) ?_ ?_) ⟨eo,BB k,?_⟩
 ·simp only [List.getElem_toArray,List.getElem_map,tob]
  exact beq_iff_eq.mpr (List.getElem_idxOf hlt)
 ·intro m hm hlt'
  simp only [List.getElem_toArray,List.getElem_map,tob]
  have hm':m<bs.length:=by simpa using hm
  cases hq:(bs[m]==k) with
  | false=>rfl
  | true=>exact absurd (by rw [List.getElem?_eq_getElem hm',beq_iff_eq.mp hq]) (ot k bs m hlt')
 ·exact ⟨.int _,H,I.tok _,⟨_,rfl⟩,q⟩
def mx:D->List D->Option D
 | .lst _ ds,[.bl k]=>(vK ds).bind fun bs=>if k∈bs then some (.int (bs.idxOf k:Nat)) else none
 | _,_=>none
theorem zY (K:PySem.W.Frag):DZ K "list" (BH K) mx:=by
 intro G H x xs dx ds d Q s rx rs e q
 unfold mx at e
 split at e
 ·rename_i f ds k
  obtain ⟨v,rfl,r1⟩:=rs.one
  obtain rfl:=r1.bl_inv
  obtain ⟨a,vs,rfl,h,t⟩:=rx.seq_inv
  cases eb:vK ds with
  | none=>rw [eb] at e;cases e
  | some bs=>
   rw [eb,Option.bind_some] at e
   split at e
   ·rename_i hk
    cases e
    obtain rfl:=t.bls eb
    exact ⟨a,bs,k,rfl,rfl,h.mono s,hk,q _ G H (.refl s) (.int _)⟩
   ·cases e
 ·cases e
theorem vR {ap cp:Pos} (ho:QF X o ga) (ha:QFA X [e] gl) (hbase:attributeBase o "count" X.env (eval o X.env)=eval o X.env:=by rfl)
 (hfew:((backTo cp (starEach [e] X.env)).all (fun x=>!x.1) && (backToKw cp (keywordEach [] X.env)).all (fun x=>x.1.isSome)
 && decide ([e].length+([]:List Keyword).length+(if ([]:List Keyword).isEmpty then 0 else 1)<30))=true:=by rfl)
 (hline:(ap.endLine==cp.line)=true:=by rfl) (hs:starEach [e] X.env=(false,eval e X.env)::starEach [] X.env:=by rfl) :
  QF X (.Call (.Attribute o "count" ap) [e] [] cp) (fun Z=>ga Z>>=fun x=>if jr "list" x=true then gl Z>>=fun ds=>ofO (lu x ds) else .no):=
 iP PySem.F.plainAttrs_list PySem.F.slot_list_count PySem.F.type_list_count AI (zJ _) ho ha hbase hfew hline hs rfl
theorem wZ {ap cp:Pos} (ho:QF X o ga) (ha:QFA X [e] gl) (hbase:attributeBase o "index" X.env (eval o X.env)=eval o X.env:=by rfl)
 (hfew:((backTo cp (starEach [e] X.env)).all (fun x=>!x.1) && (backToKw cp (keywordEach [] X.env)).all (fun x=>x.1.isSome)
 && decide ([e].length+([]:List Keyword).length+(if ([]:List Keyword).isEmpty then 0 else 1)<30))=true:=by rfl)
 (hline:(ap.endLine==cp.line)=true:=by rfl) (hs:starEach [e] X.env=(false,eval e X.env)::starEach [] X.env:=by rfl) :
  QF X (.Call (.Attribute o "index" ap) [e] [] cp) (fun Z=>ga Z>>=fun x=>if jr "list" x=true then gl Z>>=fun ds=>ofO (mx x ds) else .no):=
 iP PySem.F.plainAttrs_list PySem.F.slot_list_index PySem.F.type_list_index Ap (zY _) ho ha hbase hfew hline hs rfl
end
end L2
namespace L2
open PySem PySem.Spec PyProof.Rows
def qb:List Nat->List D->Ev->R Ev
 | [],[],Z=>.ok Z
 | i::is,d::ds,Z=>qb is ds (Z.set i (some (.val d)))
 | _,_,_=>.no
theorem oj:∀ (is:List Nat) (ds:List D) (Z:Ev) (C:Addr),qb is ds Z ≠ .ex C
 | [],[],_,_=>by intro z;cases z
 | [],_::_,_,_=>by intro z;cases z
 | _::_,[],_,_=>by intro z;cases z
 | i::is,d::ds,Z,C=>oj is ds _ C
section
variable {X:Cx} {e:Expr} {es:List Expr} {ga:Ev->R D} {gl:Ev->R (List D)} {pos:Pos}
def Fw (X:Cx) (es:List Expr) (is:List Nat):Prop:=PGs X es (fun vs σ H Q=>∃ K1 K0 G Z ds Z',StR X.K K1 K0 G H σ Z/\Reps X.K G vs ds/\qb is ds Z=.ok Z'/\∀ σ',StR X.K K1 K0 G H σ' Z'->Q σ' H)
theorem kQ:Fw X [] []:=by
 intro pins s σ H vs us Q I r h
 obtain ⟨K1,K0,G,Z,ds,Z',sr,rd,e,q⟩:=h
 refine yP pins s σ H vs us Q I r ?_
 cases rd with
 | nil=>cases e;exact ⟨rfl,q σ sr⟩
 | cons _ _=>cases e
theorem cR (i:Nat) (hN:X.N.Nodup) (h2:Fw X es is) (hi:X.N[i]?=some x:=by rfl) (hx:Loc X.env.scope x:=by first|exact Or.inl rfl|exact Or.inr rfl)
 (hs:(assignEach (.Name x p::es) X.env).map (·.2)=assign (.Name x p) X.env::(assignEach es X.env).map (·.2):=by rfl) (hf:X.fn x=true\/X.env.scope.names.lookup x=some .local:=by first|exact .inl rfl|exact .inr rfl) :
  Fw X (.Name x p::es) (i::is):=by
 intro pins s σ H vs us Q I r h
 obtain ⟨K1,K0,G,Z,ds,Z',sr,rd,e,q⟩:=h
 refine pR (gz (i:=i) hN hi hx hf) h2 hs pins s σ H vs us Q I r ?_
 cases rd with
 | nil=>cases e
 | cons r1 t1=>exact ⟨_,_,rfl,K1,K0,G,_,_,Z',sr.set r1 i,t1,e,q⟩
def zD (is:List Nat) (d:D) (Z:Ev):R Ev:=match d with
 | .tup ds=>qb is ds Z
 | _=>.no
theorem qU:∀ (is:List Nat) (ds:List D) (Z Z':Ev),qb is ds Z=.ok Z'->ds.length=is.length
 | [],[],_,_,_=>rfl
 | [],_::_,_,_,e=>by cases e
 | _::_,[],_,_,e=>by cases e
 | i::is,d::ds,Z,Z',e=>by simp [qU is ds _ Z' e]
theorem B7 (hc:X.calm=true) (h:Fw X es is) (hn:(assignEach es X.env).length=is.length:=by rfl) (hst:(assignEach es X.env).findIdx? (·.1)=none:=by rfl):PGF X (.Tuple es k pos) (zD is):=by
 intro pins s σ H v u Q I r q
 obtain ⟨K1,K0,G,Z,d,Z',sr,rd,e,q⟩:=q
 refine BG hc h hn hst pins s σ H v u Q I r ?_
 cases rd with
 | tup hh t=>
  rename_i ds
  exact ⟨_,_,rfl,hh.mono sr.e.sub,by rw [t.length];exact qU is ds Z Z' e,K1,K0,G,Z,ds,Z',sr,t,e,q⟩
 | _=>cases e
theorem xY (is:List Nat):∀ (d:D) (Z:Ev) (C:Addr),zD is d Z ≠ .ex C:=fun d Z C=>by
 cases d with
 | tup ds=>exact oj is ds Z C
 | _=>intro z;cases z
theorem wQ (i j:Nat) {a b:Expr} {px pt pt2:Pos} {kt k2:Nat} (hc:X.calm=true) (hN:X.N.Nodup) (ha:QFA X [a,b] gl) (hij:i≠j) (hi:X.N[i]?=some x:=by rfl) (hj:X.N[j]?=some y:=by rfl)
 (hx:X.env.scope.names.lookup x=some .local:=by rfl) (hy:X.env.scope.names.lookup y=some .local:=by rfl)
 (hw:swappedStores [.Tuple [.Name x px,.Name y py] kt pt] (.Tuple [a,b] k2 pt2) X.env=pure (some [x,y]):=by rfl)
 (hs:swapsWithSole [.Tuple [.Name x px,.Name y py] kt pt] (.Tuple [a,b] k2 pt2) pos.line X.env=pure false:=by rfl) :
  QSF X (.Assign [.Tuple [.Name x px,.Name y py] kt pt] (.Tuple [a,b] k2 pt2) pos) (fun Z=>(gl Z).out Z fun ds=>(qb [i,j] ds Z).out Z .nx):=fun K1 K0 pins s σ H D I h=>by
 refine A6 hc hN hi hj hij hx hy ha hw hs pins s σ H D I ?_
 obtain ⟨G,Z,sr,h⟩:=h
 dsimp only at h
 refine ⟨G,Z,sr.e,?_⟩
 cases q:gl Z with
 | ok ds=>
  rw [q] at h
  simp only [R.out] at h
  intro vs G' H' u r
  cases r with
  | nil=>exact h.elim
  | cons r1 t1=>
   cases t1 with
   | nil=>exact h.elim
   | cons r2 t2=>
    cases t2 with
    | nil=>exact ⟨_,_,rfl,h _ G' H' (((sr.ups u).set r1 i).set r2 j)⟩
    | cons _ _=>exact h.elim
 | ex C=>rw [q] at h;exact Exx.of sr h
 | no=>rw [q] at h;exact h
theorem qT {np cp:Pos} {bm:List Value} {B newId initId:String} (Oc:OwnCls x C bm newId X.mg X.base) (FB:ExcBaseFacts B newId initId bm) (hh:X.A.handled=none) (hg:Gl X x) (ha:QFA X [e] gl)
 (hdb:(x==("__debug__":Str))=false:=by decide) (hs:starEach [e] X.env=(false,eval e X.env)::starEach [] X.env:=by rfl) (hz:∀ Z ds,gl Z=.ok ds->ds.length<=1:=by intro _ _ z;first|(cases z;decide)|skip) :
  QSF X (.Raise (some (.Call (.Name x np) [e] [] cp)) none pos) (fun Z=>(gl Z).out Z fun _=>.ex C Z):=fun K1 K0 pins s σ H D I h=>by
 obtain ⟨G,Z,sr,h⟩:=h
 dsimp only at h
 obtain ⟨tl,N,nm,qn,bs,hdct,sn,sub,ab,col,dd,k0,k1,k2,k3,k5,mN,hC,hN,hni,T⟩:=Oc.obj
 refine wpAny_Raise_call_subT (C:=C) (nm:=nm) (q:=qn) (N:=N) (bs:=bs) (bm:=tl) (hdct:=hdct) (sn:=sn) (sub:=sub) (ab:=ab) (col:=col) (dd:=dd) (k0:=k0) (k1:=k1) (k2:=k2) (k3:=k3) (k5:=k5)
  FB (mN:=mN) (T.hasType FB.hasBase) hh (by rw [hs];rfl) hni (fv I hg Oc.bound ⟨rfl,?_⟩ hdb)
 have t:tAF X gl σ H (fun vs H1=>vs.length<=sizeLine/\∃ G1,Up G H G1 H1/\ke X K1 K0 D (.ex C Z)):=by
  refine ⟨G,Z,sr.e,?_⟩
  cases q:gl Z with
  | ok ds=>
   rw [q] at h
   intro vs G1 H1 u r
   exact ⟨by rw [r.length];exact Nat.le_trans (hz Z ds q) (by decide),G1,u,h⟩
  | ex C'=>rw [q] at h;exact Exx.of sr h
  | no=>rw [q] at h;exact h
 have hA:=ha cp pins s σ H _ I t
 rw [hs] at hA ⊢
 refine Calls.evalArgs_plain (wpAny_mono hA (fun vs K3 q=>?_) fun _ _ y=>y)
 obtain ⟨vs',H1,I1,r,hz,G1,u,h⟩:=q
 exact ⟨rfl,by show vs.length<=sizeLine;rw [<- r.length];exact hz,I1.bk _ _ hC,hN.keeps I1.bk,T.keeps I1.bk,fun h' a made=>h _ _ (.of (sr.ups u) ⟨pins,K3,a,rfl,I1,.inl ⟨h',vs,made,rfl⟩⟩)⟩
end
section
variable {X:Cx} {pins:List (Addr×Obj)} {σ:St} {H:Hp} {s:Shared}
theorem Inv.unset {m:Str->Option Value} {u:Option Value} (I:Inv X pins σ H s) (hN:X.N.Nodup) (hi:X.N[i]?=some x)
 (hm:∀ (j:Nat) (y:Str) (v:V),X.N[j]?=some y->σ[j]?=some (some v)->Vis X.env.scope y->∃ u,RelV v u/\Iy X.env s.heap m y u) (hn:h'.Ns X.env.locals (fun y=>if y=x then u else m y)) (sb:Heap.SameBut X.env.locals s.heap h') :
  Inv X pins (σ.set i none) H { s with heap:=h' }:=by
 have kp:∀ b o,b≠X.env.locals->s.heap.get? b=some o->h'.get? b=some o:=fun b o hb e=>(sb.2 b hb).trans e
 refine ⟨I.ok,I.os,I.bare,I.base.sameBut kp I.ok.above,⟨_,hn,fun j y v h1 h2 h3=>?_⟩,fun y c e=>?_,I.free,I.freeC,fun p hp=>?_,I.hok.sameBut kp I.free,by simp [I.len]⟩
 ·have hj:i≠j:=fun z=>by
   subst z
   rw [List.getElem?_set] at h2
   simp only [if_true] at h2
   split at h2 <;> cases h2
  rw [List.getElem?_set_ne hj] at h2
  have hy:y≠x:=fun z=>hj (ph hN hi (z ▸ h1))
  obtain ⟨w,rw',lk⟩:=hm j y v h1 h2 h3
  refine ⟨w,rw',?_⟩
  rcases lk with ⟨k,e⟩|⟨k,c,hc,cell⟩
  ·exact .inl ⟨k,by show (if y=x then u else m y)=some w;rw [if_neg hy];exact e⟩
  ·exact .inr ⟨k,c,hc,cell.sameBut sb (I.cne y c hc)⟩
 ·obtain ⟨v,q⟩:=I.cell y c e
  exact ⟨v,q.sameBut sb (I.cne y c e)⟩
 ·obtain ⟨p1,p2,p3,p4,p5⟩:=I.pin p hp
  exact ⟨kp _ _ p3 p1,p2,p3,p4,p5⟩
theorem Inv.cx {A':Around} {calm':Bool} {pn' pins':List (Addr×Obj)} {xe':Value->Shared->Prop} (I:Inv X pins σ H s) (hp:∀ p∈pn'++pins',p∈X.pn++pins) (hA:A'.frames=X.A.frames) (hd:calm'=true->A'.handled=none) :
  Inv { X with A:=A',calm:=calm',pn:=pn',xe:=xe' } pins' σ H s:=
 ⟨⟨I.ok.mod,I.ok.kind,I.ok.glob,I.ok.blt,I.ok.above,I.ok.inj,I.ok.has,I.ok.cab,hd,hA.trans I.ok.frames,I.ok.stk,I.ok.exf,I.ok.bs,I.ok.bsz,I.ok.noex,I.ok.exfs,I.ok.funs,I.ok.frf,I.ok.tabs⟩,
  I.os,I.bare,I.base,I.loc,I.cell,I.free,I.freeC,fun p q=>I.pin p (hp p q),I.hok,I.len⟩
end
end L2
namespace L2
open PySem PySem.Spec PyProof.Rows
noncomputable def Bt (gb gs:Ev->O) (f:Addr->Option Bool) (i:Nat):Ev->O:=fun Z=>match gb Z with
 | .ex C Z'=>(match f C with
  | some true=>(match gs (Z'.set i (some (.val (.exc C)))) with
   | .nx Z''=>.nx (Z''.set i none)
   | .rt d=>.rt d
   | _=>.no)
  | _=>.no)
 | o=>o
section
variable {X:Cx} {body suite:List Stmt} {L6:Stmt} {gb gs:Ev->O} {pos hp tp:Pos} {tn nm:Str} {Ct:Addr}
abbrev jw (X:Cx) (pn:List (Addr×Obj)) (xe:Value->Shared->Prop):Cx:={ X with A:=X.A,calm:=X.calm,pn:=pn,xe:=xe }
abbrev fq (X:Cx) (a:Addr) (xe:Value->Shared->Prop):Cx:={ X with A:=X.A.mark (some (.ref a)),calm:=false,pn:=X.pn,xe:=xe }
theorem wF (pr:St->Prop) (i:Nat) (f:Addr->Option Bool) (hN:X.N.Nodup) (hcalm:X.calm=true) (hst:X.stack=X.env::X.outer) (hfr:X.env.frame=some X.env.locals) (hkd:X.env.scope.kind=.function)
 (K1 K0:Hp) (hb:∀ pn xe,PSs (jw X pn xe) body fun D σ H=>pr σ/\tS (jw X pn xe) K1 K0 gb D σ H) (hh:∀ a xe,zF (fq X a xe) (L6::suite) gs) (hf:∀ C,f C=some true->PySem.W.exmOne X.K (.ref C) (.ref Ct)=some true) (hg:Gl X tn) (hm:X.mg tn=some (.ref Ct))
 (hi:X.N[i]?=some nm) (hx:X.env.scope.names.lookup nm=some .local) (hdb:(tn==("__debug__":Str))=false:=by decide) :
  PS X (.Try body [.ExceptHandler (some (.Name tn tp)) (some nm) (L6::suite) hp] [] [] pos) fun D σ H=>pr σ/\tS X K1 K0 (Bt gb gs f i) D σ H:=fun pins s σ H D I h=>by
 obtain ⟨hpr,G,Z,sr,h⟩:=h
 refine wpAny_Try_except ?_
 have fs:frs X.stack=X.env.locals::frs X.outer:=by rw [hst];exact uW hfr
 have I1:∀ xe,Inv (jw X (X.pn++pins) xe) [] σ H s:=fun xe=>I.cx (fun p q=>by simpa using q) rfl I.ok.hd
 have back:∀ {xe:Value->Shared->Prop} {pins':List (Addr×Obj)} {σ':St} {H':Hp} {s':Shared},Inv (jw X (X.pn++pins) xe) pins' σ' H' s'->Inv X pins σ' H' s':=fun J=>
  (J.cx (pn':=X.pn) (pins':=pins) (xe':=X.xe) (fun p q=>List.mem_append_left _ q) rfl J.ok.hd:Inv { (jw X (X.pn++pins) _) with A:=X.A,calm:=X.calm,pn:=X.pn,xe:=X.xe } pins _ _ _)
 refine wpAny_mono (hb (X.pn++pins) (fun e K2=>wpAny (model X.prog X.w) X.A (noteFrame e X.env) (fun _ K3=>wpAny (model X.prog X.w) X.A (setFlight e none) (fun _ K9=>
   wpAny (model X.prog X.w) X.A (handleBy e X.env [.ExceptHandler (some (.Name tn tp)) (some nm) (L6::suite) hp]) (SP X pins D) X.xe K9) X.xe K3) X.xe K2) [] s σ H D (I1 _) ⟨hpr,G,Z,sr,?_⟩) (fun fl K2 q=>?_) fun e K2 q=>q
 case refine_2=>
  cases fl with
  | next=>obtain ⟨σ',H',J,q⟩:=q;exact wpAny_execs_nil ⟨σ',H',back J,q⟩
  | brk=>obtain ⟨σ',H',J,q⟩:=q;exact ⟨σ',H',back J,q⟩
  | cont=>obtain ⟨σ',H',J,q⟩:=q;exact ⟨σ',H',back J,q⟩
  | ret u=>obtain ⟨v,σ',H',J,r,q⟩:=q;exact ⟨v,σ',H',back J,r,q⟩
 unfold Bt at h
 cases q:gb Z with
 | nx Z'=>rw [q] at h;exact h
 | rt d=>rw [q] at h;exact h
 | re d Z'=>rw [q] at h;exact h
 | bk Z'=>rw [q] at h;exact h
 | ct Z'=>rw [q] at h;exact h
 | no=>rw [q] at h;exact h.elim
 | ex C Z'=>
  rw [q] at h
  dsimp only at h
  cases qf:f C with
  | none=>rw [qf] at h;exact h.elim
  | some b=>
   cases b with
   | false=>rw [qf] at h;exact h.elim
   | true=>
    rw [qf] at h
    dsimp only at h
    have way8:(∃ Z'',gs (Z'.set i (some (.val (.exc C))))=.nx Z'')\/∃ d,gs (Z'.set i (some (.val (.exc C))))=.rt d:=by
     cases qs:gs (Z'.set i (some (.val (.exc C)))) <;> rw [qs] at h <;> first|exact .inl ⟨_,rfl⟩|exact .inr ⟨_,rfl⟩|exact h.elim
    ·intro e s' fl
     obtain ⟨σ',K6,pins₁,K2,a,rfl,J0,way⟩:=fl
     have L9:Inv X pins σ' K6 K2:=back J0
     have cont:∀ {ch:List Addr} {H' G':Hp} {s':Shared} {B:Heap} {a0:Value} {h₄:Heap},(∀ b∈ch,Hj X pins b)->s'.os=K2.os->AllBare s'.gens->Un (frs X.stack) ch K6 H' K2.heap s'.heap->HOk X.prog X.w H' s'.heap->H' a=none->K2.heap.get? a=none->StR X.K K1 K0 G' H' σ' Z'->
       (∀ b o,b ∉ frs X.stack->((∃ o0,K2.heap.get? b=some o0)\/∃ u,H' b=some u)->s'.heap.get? b=some o->B.get? b=some o)->Heap.HeldW B (X.env::X.outer) a (.ref C) a0 X.env.locals h₄->s'.heap.UpToSlots h₄->
       wpAny (model X.prog X.w) X.A (setFlight (.ref a) none) (fun _ K9=>wpAny (model X.prog X.w) X.A (handleBy (.ref a) X.env [.ExceptHandler (some (.Name tn tp)) (some nm) (L6::suite) hp]) (SP X pins D) X.xe K9) X.xe { s' with heap:=h₄ }:=by
      intro ch H' G' s' B a0 h₄ hch os bare un hok ha hnew up hk held sm
      have J':Inv X pins σ' H' s':=L9.call' (ch:=ch) os un hok bare hch
      have dat:∀ b∈frs X.stack,∀ o,s'.heap.get? b=some o->∀ vs,o.data ≠ .fields vs:=fun b hb o e=>by
       obtain ⟨o',e',d',_⟩:=FunFrames.data J'.stack b hb
       rw [e] at e';cases e';exact d'
      have at_:∀ {h5:Heap},B.StaysIn h5->s'.heap.UpToSlots h5->Un (frs X.stack) ch K6 H' K2.heap h5/\HOk X.prog X.w H' h5:=fun {h5} hb5 sm5=>
       ⟨un.flight hb5 sm5 hk (fun b o e=>⟨o,e⟩) (fun b hb=>.inl hb) dat,hok.flight hb5 hk J'.stkFree⟩
      refine wpAny_landsW held fun M8 N3 O0=>?_
      obtain ⟨O6,O7⟩:=at_ N3.1 (sm.trans O0)
      have O8:Inv X pins σ' H' { s' with heap:=M8 }:=L9.call' (s':={ s' with heap:=M8 }) (ch:=ch) os O6 O7 bare hch
      have O1:Inv (fq X a fun _ _=>False) pins σ' H' { s' with heap:=M8 }:=O8.cx (fun p q=>q) rfl (fun z=>by cases z)
      obtain ⟨ob,hob,hobc⟩:=N3.there
      refine wpAny_handleBy_cons (codeAny_handlers_test (fv O1 hg hm ?_ hdb)) (by intro z;cases z)
      refine (PySem.W.exm_one (M:=model X.prog X.w) O1.kIn (hobc ▸ (PySem.W.Looks.ld hob).andThen .now) (hf C qf)).here ?_
      show codeAny _ _ _ _ _
      refine codeAny_handlers_suite_as ?_
      refine lands_againW N3 fun N0 O2 O9=>?_
      obtain ⟨M0,P0⟩:=at_ O2.1 ((sm.trans O0).trans O9)
      obtain ⟨ob6,hob6,hobc6⟩:=O2.there
      have hokA:HOk X.prog X.w (upd H' a (.ext (hW a C))) N0:=fun b o e=>by
       by_cases eb:b=a
       ·subst eb
        rw [aX] at e
        cases e
        exact ⟨⟨ob6,hob6,hobc6⟩,⟨ob6,hob6⟩,fun h1 h2 ⟨ob,e1,e2⟩ k=>⟨ob,k _ e1,e2⟩⟩
       ·rw [aL eb] at e
        refine (P0 b o e).stay (fun _ _ _ z=>z) (fun c z=>?_) (fun c xs z=>?_) (fun c ob u z=>?_)
        case refine_3=>rw [aL (aO z ha)];exact z
        ·rw [aL (aO z ha)];exact z
        ·rw [aL (aO z ha)];exact z
      have unA:Un (frs X.stack) ch K6 (upd H' a (.ext (hW a C))) K2.heap N0:=by
       refine ⟨M0.keep,M0.slot,fun b o e n x=>?_,M0.there,fun b xs z=>?_,fun b o u z=>?_,fun b ps z=>?_⟩
       ·rw [aL (fun z=>by rw [z,hnew] at e;cases e)];exact M0.free b o e n x
       ·have:=M0.tups b xs z;rw [aL (aO this ha)];exact this
       ·have:=M0.frzs b o u z;rw [aL (aO this ha)];exact this
       ·obtain ⟨more,this⟩:=M0.tbls b ps z;exact ⟨more,by rw [aL (aO this ha)];exact this⟩
      have P1:Inv X pins σ' (upd H' a (.ext (hW a C))) { s' with heap:=N0 }:=L9.call' (s':={ s' with heap:=N0 }) (ch:=ch) os unA hokA bare hch
      have upA:Up G' H' (upd G' a (.ext (hW a C))) (upd H' a (.ext (hW a C))):=.new up.e.sub ha
      have P2:Inv (fq X a fun _ _=>False) pins σ' (upd H' a (.ext (hW a C))) { s' with heap:=N0 }:=P1.cx (fun p q=>q) rfl (fun z=>by cases z)
      refine kS (X:=fq X a fun _ _=>False) P2 hN hi (.inl hx) (v:=.ref a) rfl (fun P3 P4=>?_) (.inr hx)
      have sr7:=(up.ups upA).set (.exc aX:Rep X.K (upd G' a (.ext (hW a C))) (.ref a) (.exc C)) i
      refine wpAny_mono (hh a (fun _ _=>False) K1 K0 pins P3 _ _ { nx:=fun L4 L7=>∃ Z'' L5,gs (Z'.set i (some (.val (.exc C))))=.nx Z''/\StR X.K K1 K0 L5 L7 L4 Z'',rt:=fun v L7=>∃ d L5,gs (Z'.set i (some (.val (.exc C))))=.rt d/\Up K1 K0 L5 L7/\Rep X.K L5 v d } P4 ⟨_,_,sr7,by
       rcases way8 with ⟨Z'',qs⟩|⟨d,qs⟩
       ·rw [qs];exact fun L4 L5 L7 sr8=>⟨Z'',L5,rfl,sr8⟩
       ·rw [qs];exact fun v L5 L7 u8 rp8=>⟨d,L5,rfl,u8,rp8⟩⟩) (fun fl O3 q8=>?_) fun _ _ z=>z.elim
      cases fl with
      | next=>
       obtain ⟨L4,L7,N4,Z'',L5,qs,sr8⟩:=q8
       rw [qs] at h
       have N1:Inv X pins L4 L7 O3:=(N4.cx (pn':=X.pn) (pins':=pins) (A':=X.A) (calm':=X.calm) (xe':=X.xe) (fun p q=>q) rfl I.ok.hd:Inv { (fq X a fun _ _=>False) with A:=X.A,calm:=X.calm,pn:=X.pn,xe:=X.xe } pins _ _ _)
       refine wpAny_bind (wpAny_bindName (ji N1 hN hi (.inl hx) (v:=.non) rfl (fun P5 N2 _=>?_) (.inr hx)))
       obtain ⟨m9,hn9,hl9⟩:=id N2.loc
       have hlt:i<L4.length:=by rw [N1.len];exact (List.getElem?_eq_some_iff.mp hi).1
       obtain ⟨u9,r9,lk9⟩:=hl9 i nm .non hi (by rw [List.getElem?_set_self hlt]) (.inl hx)
       have hv9:m9 nm=some u9:=by
        rcases lk9 with ⟨_,e⟩|⟨k,_⟩
        ·exact e
        ·have k':X.env.scope.names.lookup nm=some .cell\/X.env.scope.names.lookup nm=some .free:=k
         rw [hx] at k';rcases k' with k'|k' <;> cases k'
       refine wpAny_onRaise (wpAny_unbindName_local hx hn9 hv9 (by rw [hkd];rfl) fun h10 u10 hn10 sb10=>?_)
       have J10:=N2.unset hN hi hl9 hn10 sb10
       refine ⟨_,_,J10,?_⟩
       have e10:(L4.set i (some V.non)).set i none=L4.set i none:=by rw [List.set_set]
       rw [e10]
       refine h _ L5 _ ?_
       have get:∀ (j:Nat) x,(Z''.set i none)[j]?=some (some x)->j≠i/\Z''[j]?=some (some x)/\(L4.set i none)[j]?=L4[j]?:=fun j x e=>by
        by_cases ej:i=j
        ·subst ej
         rw [List.getElem?_set] at e
         simp only [if_true] at e
         split at e <;> cases e
        ·rw [List.getElem?_set_ne ej] at e
         exact ⟨fun z=>ej z.symm,e,List.getElem?_set_ne ej⟩
       have ob:ObSt X.K K0 L5 L7 (L4.set i none) (Z''.set i none):=by
        obtain ⟨ow,o1,o2⟩:=sr8.ob
        refine ⟨ow,fun j ds l e1 e2=>?_,fun j m C p fs e1=>?_⟩
        ·obtain ⟨_,f1,f2⟩:=get j _ e1;exact o1 j ds l f1 (f2 ▸ e2)
        ·obtain ⟨_,f1,f2⟩:=get j _ e1;rw [f2];exact o2 j m C p fs f1
       refine ⟨⟨sr8.e.sub,by simp [sr8.e.len],fun j d e=>?_,ob.rd⟩,sr8.sub0,sr8.up,fun j ds e=>?_,fun j k ds es l e1 e2 e3 e4=>?_,ob⟩
       ·obtain ⟨_,e1,e2⟩:=get j _ e;rw [e2];exact sr8.e.val j d e1
       ·obtain ⟨_,e1,e2⟩:=get j _ e;rw [e2];exact sr8.own j ds e1
       ·obtain ⟨_,f1,f2⟩:=get j _ e1
        obtain ⟨_,f3,f4⟩:=get k _ e2
        exact sr8.inj j k ds es l f1 f3 (f2 ▸ e3) (f4 ▸ e4)
      | brk=>obtain ⟨_,_,_,z⟩:=q8;exact z.elim
      | cont=>obtain ⟨_,_,_,z⟩:=q8;exact z.elim
      | ret u=>
       obtain ⟨v,L4,L7,N4,r8,d,L5,qs,u8,rp8⟩:=q8
       rw [qs] at h
       have N1:Inv X pins L4 L7 O3:=(N4.cx (pn':=X.pn) (pins':=pins) (A':=X.A) (calm':=X.calm) (xe':=X.xe) (fun p q=>q) rfl I.ok.hd:Inv { (fq X a fun _ _=>False) with A:=X.A,calm:=X.calm,pn:=X.pn,xe:=X.xe } pins _ _ _)
       refine wpAny_bind (wpAny_bindName (ji N1 hN hi (.inl hx) (v:=.non) rfl (fun P5 N2 _=>?_) (.inr hx)))
       obtain ⟨m9,hn9,hl9⟩:=id N2.loc
       have hlt:i<L4.length:=by rw [N1.len];exact (List.getElem?_eq_some_iff.mp hi).1
       obtain ⟨u9,r9,lk9⟩:=hl9 i nm .non hi (by rw [List.getElem?_set_self hlt]) (.inl hx)
       have hv9:m9 nm=some u9:=by
        rcases lk9 with ⟨_,e⟩|⟨k,_⟩
        ·exact e
        ·have k':X.env.scope.names.lookup nm=some .cell\/X.env.scope.names.lookup nm=some .free:=k
         rw [hx] at k';rcases k' with k'|k' <;> cases k'
       refine wpAny_onRaise (wpAny_unbindName_local hx hn9 hv9 (by rw [hkd];rfl) fun h10 u10 hn10 sb10=>?_)
       have J10:=N2.unset hN hi hl9 hn10 sb10
       exact ⟨v,_,_,J10,r8,h v L5 _ u8 rp8⟩
     have hfrm:X.A.frames=some (X.env::X.outer):=by rw [<- hst];exact I.ok.frames
     rcases way with ⟨K5,h',vs,sr',made,rfl⟩|⟨G',H',⟨os,bare,un,hok,ha,B,a0,fl,hk⟩,up⟩|⟨G',H',L',hL,⟨os,bare,⟨ch,hch,un⟩,hok,ha,hna,B,a0,fl,hk⟩,up⟩
     ·have hin:∀ env∈X.stack,∀ b,env.frame=some b->b∈frs X.stack:=fun env he b hb=>List.mem_filterMap.mpr ⟨env,he,hb⟩
      have ha:K6 a=none:=by
       cases q:K6 a with
       | none=>rfl
       | some u=>
        obtain ⟨ob,e⟩:=(L9.hok a u q).there
        rw [made.new] at e;cases e
      obtain ⟨t,he,htn,ht⟩:=made.there
      have hkb:(PySem.W.hideAll K2.heap (frs X.stack)).StaysIn h':=fun b o q=>made.keeps b o (PySem.W.of_hideAll _ q)
      have hen:(PySem.W.hideAll K2.heap (frs X.stack)).get? a=none:=by
       cases q:(PySem.W.hideAll K2.heap (frs X.stack)).get? a with
       | none=>rfl
       | some o=>have:=PySem.W.of_hideAll _ q;rw [made.new] at this;cases this
      have hff:h'.FunFrames (PySem.W.hideAll K2.heap (frs X.stack)) (X.env::X.outer):=by
       rw [<- hst]
       exact (PySem.W.funFrames_hide L9.stack hin).of_keeps fun b o hb _=>⟨o,made.keeps b o hb,rfl⟩
      show wpAny _ _ (noteFrame (.ref a) X.env) _ _ _
      unfold noteFrame
      simp only [hfr]
      refine wpAny_bind (wpAny_field (show ({ K2 with heap:=h' }:Shared).heap.get? a=some _ from he) rfl (x:=.none) rfl ?_)
      rw [if_neg (by decide)]
      refine wpAny_entryW (base:=PySem.W.hideAll K2.heap (frs X.stack)) (a0:=.ref t) hfrm hff hfr he hkb hen rfl (by show 1<6;decide) rfl fun h₄ noted=>?_
      obtain ⟨n1,n2,n3,n4⟩:=noted
      refine cont (ch:=[]) (s':={ K2 with heap:=h' }) (fun b z=>absurd z (by simp)) rfl L9.bare (Un.kept made.keeps) (L9.hok.kept made.keeps) ha made.new sr' (fun b o hb ho e=>?_) ⟨n1,hen,n2,n3⟩ n4
      have e1:K2.heap.get? b=some o:=by
       rcases ho with ⟨o0,ho⟩|⟨u,ho⟩
       ·have q:=made.keeps b o0 ho
        have e':h'.get? b=some o:=e
        rw [q] at e';cases e';exact ho
       ·obtain ⟨ob,ho⟩:=(L9.hok b u ho).there
        have q:=made.keeps b ob ho
        have e':h'.get? b=some o:=e
        rw [q] at e';cases e';exact ho
      exact PySem.W.hideAll_get _ e1 hb
     ·have hna:K2.heap.get? a=none:=by
       cases q:K2.heap.get? a with
       | none=>rfl
       | some o0=>
        obtain ⟨o',e'⟩:=un.there a o0 q (by simp)
        have hna:a ∉ frs X.stack:=fun z=>by
         obtain ⟨o1,e1,d1,_⟩:=FunFrames.data fl.2.2.1 a z
         obtain ⟨oe,vs,_,_,_,e2,_,d2,_⟩:=fl.2.2.2
         rw [e1] at e2;cases e2;exact d1 vs d2
        have:=hk a o' hna (.inl ⟨o0,q⟩) e'
        rw [fl.2.1] at this;cases this
      rw [hst] at fl
      exact wpAny_looks_onW hfrm hfr fl fun h₄ held sm=>cont (ch:=[]) (fun b z=>absurd z (by simp)) os bare un hok ha hna up hk held sm
     ·have hch':∀ b∈ch,Hj X pins b:=fun b hb=>let ⟨c1,c2,c3,c4⟩:=hch b hb;⟨c1,c2,c3,fun p hp=>c4 p (List.mem_append_left _ hp)⟩
      have eL:X.env.locals=L':=Option.some.inj (hfr.symm.trans hL)
      rw [hst,<- eL] at fl
      exact wpAny_noteFrame_againW hfr fl.2.2.2 (cont (h₄:=s'.heap) hch' os bare un hok ha hna up hk fl fun b o hb _=>⟨o.slots,hb⟩)
end
end L2
namespace L2
open PySem PySem.Spec PyProof.Rows
structure Callee (P:Program) (w:World) (K:PySem.W.Frag) (mg:Str->Option Value) (base:Heap) (x:Str) (k n:Nat) (g:List D->R D):Prop where
 ex:∃ f fd ps,FnF P w K mg base k f fd ps g/\mg x=some (.ref f)/\PySem.W.keepIn K (.ref f)=true/\Binds K fd ps []/\ps.length=n
theorem wJ {e:Expr} (c:Callee X.prog X.w X.K X.mg X.base x k n g) (hr:Room k X.A) (ha:QFA X (e::es) gl) (hg:Gl X x:=by rfl)
 (hdb:(x==("__debug__":Str))=false:=by decide) (he:starEach (e::es) X.env=(false,eval e X.env)::starEach es X.env:=by rfl) (hpl:(backTo pos (starEach es X.env)).any (·.1)=false:=by rfl) :
  QF X (.Call (.Name x p) (e::es) [] pos) (fun Z=>gl Z>>=fun ds=>if ds.length=n then g ds else .no):=by
 obtain ⟨f,fd,ps,F,hm,hk,hb,rfl⟩:=c.ex
 exact xC F hr hg hm hk hb ha hdb he hpl
theorem FnF.to {w:World} {K:PySem.W.Frag} {mg:Str->Option Value} {base:Heap} {g':List D->R D} (F:FnF P w K mg base k f fd ps g) (h:∀ ds,ds.length=ps.length->g' ds=.no\/g ds=g' ds):FnF P w K mg base k f fd ps g':=by
 refine F.imp fun vs H Q E ⟨hl,G,ds,sub,r,q⟩=>⟨hl,G,ds,sub,r,?_⟩
 rcases h ds (by rw [<- r.length];exact hl) with z|z
 ·rw [z] at q;exact q.elim
 ·rw [z];exact q
theorem Fun.callee {w:World} {K:PySem.W.Frag} {mg:Str->Option Value} {base:Heap} (F:Fun K x x st f fd) (hm:mg x=some (.ref f)) (ok:FnF P w K mg base k f fd ps g)
 (h:∀ (kV doc pm:Value) (an:Option Addr) (cdv ct:Value) (us:List Value),us.length=ps.length->bindArgs (PySem.W.fnOf x x (cB st) (bi st) (ai st) .none kV doc pm an cdv ct) ⟨us,[]⟩=pure (ps.zip us)):Callee P w K mg base x k ps.length g:=
 ⟨f,fd,ps,ok,hm,F.kp,F.binds h,rfl⟩
theorem jc {T:String} {f:String->Bool} (h:∀ K:PySem.W.Frag,PySem.W.kitOne K (.type "NoneType") (.type T)=some (f "NoneType")/\PySem.W.kitOne K (.type "bool") (.type T)=some (f "bool")/\PySem.W.kitOne K (.type "int") (.type T)=some (f "int")/\
 PySem.W.kitOne K (.type "str") (.type T)=some (f "str")/\PySem.W.kitOne K (.type "tuple") (.type T)=some (f "tuple")/\PySem.W.kitOne K (.type "list") (.type T)=some (f "list")) :
  ∀ K:PySem.W.Frag,∀ t∈["NoneType","bool","int","str","tuple","list"],PySem.W.kitOne K (.type t) (.type T)=some (f t):=fun K t ht=>by
 obtain ⟨h1,h2,h3,h4,h5,h6⟩:=h K
 simp only [List.mem_cons,List.mem_nil_iff,or_false] at ht
 rcases ht with rfl|rfl|rfl|rfl|rfl|rfl <;> assumption
def isInt (t:String):Bool:=t=="int" || t=="bool"
section
variable {X:Cx} {e:Expr} {ga:Ev->R D} {p p2 pos:Pos}
theorem wc (hm:X.mg "isinstance"=none) (ha:QF X e ga) (hm2:X.mg "int"=none) (hg2:Gl X "int":=by rfl) (hg:Gl X "isinstance":=by rfl) (hs1:starEach [e,.Name "int" p2] X.env=(false,eval e X.env)::starEach [.Name "int" p2] X.env:=by rfl):QF X (.Call (.Name "isinstance" p) [e,.Name "int" p2] [] pos) (fun Z=>ga Z>>=lw isInt):=
 jh (T:="int") isInt (jc fun K=>⟨rfl,rfl,rfl,rfl,rfl,rfl⟩) hg hm hg2 hm2 PyProof.Rows.Boot.«int» ha hs1
theorem tm (hm:X.mg "isinstance"=none) (ha:QF X e ga) (hm2:X.mg "bool"=none) (hg2:Gl X "bool":=by rfl) (hg:Gl X "isinstance":=by rfl) (hs1:starEach [e,.Name "bool" p2] X.env=(false,eval e X.env)::starEach [.Name "bool" p2] X.env:=by rfl):QF X (.Call (.Name "isinstance" p) [e,.Name "bool" p2] [] pos) (fun Z=>ga Z>>=lw (·=="bool")):=
 jh (T:="bool") (·=="bool") (jc fun K=>⟨rfl,rfl,rfl,rfl,rfl,rfl⟩) hg hm hg2 hm2 PyProof.Rows.Boot.«bool» ha hs1
theorem wv (hm:X.mg "isinstance"=none) (ha:QF X e ga) (hm2:X.mg "str"=none) (hg2:Gl X "str":=by rfl) (hg:Gl X "isinstance":=by rfl) (hs1:starEach [e,.Name "str" p2] X.env=(false,eval e X.env)::starEach [.Name "str" p2] X.env:=by rfl):QF X (.Call (.Name "isinstance" p) [e,.Name "str" p2] [] pos) (fun Z=>ga Z>>=lw (·=="str")):=
 jh (T:="str") (·=="str") (jc fun K=>⟨rfl,rfl,rfl,rfl,rfl,rfl⟩) hg hm hg2 hm2 PyProof.Rows.Boot.«str» ha hs1
theorem rO (hm:X.mg "isinstance"=none) (ha:QF X e ga) (hm2:X.mg "tuple"=none) (hg2:Gl X "tuple":=by rfl) (hg:Gl X "isinstance":=by rfl) (hs1:starEach [e,.Name "tuple" p2] X.env=(false,eval e X.env)::starEach [.Name "tuple" p2] X.env:=by rfl):QF X (.Call (.Name "isinstance" p) [e,.Name "tuple" p2] [] pos) (fun Z=>ga Z>>=lw (·=="tuple")):=
 jh (T:="tuple") (·=="tuple") (jc fun K=>⟨rfl,rfl,rfl,rfl,rfl,rfl⟩) hg hm hg2 hm2 PyProof.Rows.Boot.«tuple» ha hs1
end
end L2
namespace L2
open PySem PySem.Spec PyProof.Rows
def cg (ga:Ev->R D):Ev->O:=fun Z=>(ga Z).out Z .rt
def aJ (g1 g2:Ev->O):Ev->O:=fun Z=>(g1 Z).seq g2
def oIf (gt:Ev->R Bool) (g1 g2:Ev->O):Ev->O:=fun Z=>(gt Z).out Z fun k=>if k=true then g1 Z else g2 Z
def oNx:Ev->O:=fun Z=>.nx Z
def eB (i:Nat) (ga:Ev->R D):Ev->O:=fun Z=>(ga Z).out Z fun d=>.nx (Z.set i (some (.val d)))
def Cv (i:Nat) (gl:Ev->R (List D)):Ev->O:=fun Z=>(gl Z).out Z fun ds=>.nx (Z.set i (some (.own ds)))
def wm (ga:Ev->R D):Ev->O:=fun Z=>(ga Z).out Z fun _=>.nx Z
def sv (asg:D->Ev->R Ev) (gi:Ev->R (List D)) (g:Ev->O):Ev->O:=fun Z=>(gi Z).out Z fun items=>dF asg g items Z
def hJ (C:Addr) (gl:Ev->R (List D)):Ev->O:=fun Z=>(gl Z).out Z fun _=>.ex C Z
def D2 (asg:D->Ev->R Ev) (ga:Ev->R D):Ev->O:=fun Z=>(ga Z).out Z fun d=>(asg d Z).out Z .nx
def F3 (i:Nat) (g:Ev->O):Ev->O:=fun Z=>g (frz i Z)
def aS {α β:Type} (f:α->R β) (ga:Ev->R α):Ev->R β:=fun Z=>ga Z>>=f
def gOf (f:List D->Option D) (gl:Ev->R (List D)):Ev->R D:=fun Z=>gl Z>>=fun ds=>ofO (f ds)
def aa (ga:Ev->R D) (gl:Ev->R (List D)):Ev->R (List D):=fun Z=>ga Z>>=fun x=>gl Z>>=fun xs=>.ok (x::xs)
def bf (n:Nat) (g:List D->R D) (gl:Ev->R (List D)):Ev->R D:=fun Z=>gl Z>>=fun ds=>if ds.length=n then g ds else .no
def cQ (gl:Ev->R (List D)):Ev->R D:=fun Z=>gl Z>>=fun ds=>.ok (.lst false ds)
def sw (gl:Ev->R (List D)):Ev->R (List D):=fun Z=>gl Z>>=fun ds=>if ds.length<=sizeLine then .ok ds else .no
def gB2 (f:D->D->Option D) (ga gb:Ev->R D):Ev->R Bool:=fun Z=>g2 f ga gb Z>>=asB
def gB3 (f f':D->D->Option D) (ga gb gc:Ev->R D):Ev->R Bool:=fun Z=>g3 f f' ga gb gc Z>>=asB
def gBn (gt:Ev->R Bool):Ev->R Bool:=fun Z=>gt Z>>=fun k=>.ok (!k)
def jI (ga:Ev->R D):Ev->R (Option Int):=fun Z=>ga Z>>=fun x=>asI x>>=fun i=>.ok (some i)
def pN (T:String) (f:D->List D->Option D) (ga:Ev->R D) (gl:Ev->R (List D)):Ev->R D:=fun Z=>ga Z>>=fun x=>if jr T x=true then gl Z>>=fun ds=>ofO (f x ds) else .no
theorem Callee.mono {w:World} {K:PySem.W.Frag} {mg:Str->Option Value} {base:Heap} (c:Callee P w K mg base x k n g) (k':Nat) (h:k<=k':=by decide):Callee P w K mg base x k' n g:=by
 obtain ⟨f,fd,ps,F,hm,hk,hb,e⟩:=c.ex
 exact ⟨f,fd,ps,{ F with run:=fun A outer s H args us vs Q E hr=>F.run A outer s H args us vs Q E (hr.mono h) },hm,hk,hb,e⟩
section
variable {X:Cx} {st:Stmt} {cV body sa sb:List Stmt} {e a b c o tg:Expr} {es:List Expr} {g gs1 gs2:Ev->O} {ga gb gc:Ev->R D} {gt:Ev->R Bool} {gl:Ev->R (List D)} {pos p p2:Pos} {x:Str}
theorem zx (i:Nat) (hN:X.N.Nodup) (he:QF X e ga) (hi:X.N[i]?=some x:=by rfl) (hx:Loc X.env.scope x:=by first|exact Or.inl rfl|exact Or.inr rfl)
 (hs:swapsWithSole [.Name x p] e pos.line X.env=pure false:=by rfl) (hw:swappedStores [.Name x p] e X.env=pure none:=by rfl) (hf:X.fn x=true\/X.env.scope.names.lookup x=some .local:=by first|exact .inl rfl|exact .inr rfl) :
  QSF X (.Assign [.Name x p] e pos) (eB i ga):=wj i hN he hi hx hs hw hf
theorem qq (ha:QF X e ga) (hr:QFA X es gl) (hs:starEach (e::es) X.env=(false,eval e X.env)::starEach es X.env:=by rfl):QFA X (e::es) (aa ga gl):=wP ha hr hs
end
end L2
namespace L2
open PySem PySem.Spec PyProof.Rows
@[simp] theorem R.ok_out {α:Type} (a:α) (Z:Ev) (k:α->O):(R.ok a).out Z k=k a:=rfl
@[simp] theorem R.ex_out {α:Type} (C:Addr) (Z:Ev) (k:α->O):(R.ex C:R α).out Z k=.ex C Z:=rfl
@[simp] theorem tB {α:Type} (a:α):fN (R.ok a)=R.ok a:=rfl
theorem rD {gt:Ev->R Bool} {ge:Ev->R D} (p:D->Bool) (h:D->D) (tl:Ev):∀ (ds:List D) (a:Option Sl),(∀ d∈ds,gt (some (.val d)::tl)=.ok (p d)/\(p d=true->ge (some (.val d)::tl)=.ok (h d)))->jp gt ge ds (a::tl)=.ok ((ds.filter p).map h)
 | [],a,_=>rfl
 | d::ds,a,H=>by
  have ih:=rD p h tl ds (some (.val d)) fun x m=>H x (List.mem_cons_of_mem _ m)
  obtain ⟨e1,e2⟩:=H d (List.mem_cons_self ..)
  show (fN (gt (some (.val d)::tl))>>=fun k=>if k=true then fN (ge (some (.val d)::tl))>>=fun x=>jp gt ge ds (some (.val d)::tl)>>=fun xs=>.ok (x::xs) else jp gt ge ds (some (.val d)::tl))=_
  rw [e1,tB,R.ok_bind,ih]
  cases q:p d with
  | true=>rw [if_pos rfl,e2 q,tB,R.ok_bind,R.ok_bind,List.filter_cons_of_pos q];rfl
  | false=>rw [if_neg Bool.false_ne_true,List.filter_cons_of_neg (by rw [q];exact Bool.false_ne_true)]
theorem gq {gt:Ev->R Bool} {ge:Ev->R D} (h:D->D) (tl:Ev) (ds:List D) (a:Option Sl) (H:∀ d∈ds,gt (some (.val d)::tl)=.ok true/\ge (some (.val d)::tl)=.ok (h d)):jp gt ge ds (a::tl)=.ok (ds.map h):=by
 rw [rD (fun _=>true) h tl ds a fun d m=>⟨(H d m).1,fun _=>(H d m).2⟩,List.filter_eq_self.2 fun _ _=>rfl]
theorem vM (f:D->Bool):∀ ds:List D,vK (ds.map fun d=>.bl (f d))=some (ds.map f)
 | []=>rfl
 | d::ds=>by
  have ih:=vM f ds
  rw [List.map_cons,List.map_cons]
  unfold vK
  first|(rw [ih];rfl)|(simp only [ih];rfl)|simp [ih]
theorem pj (f:D->Bool) (k:Bool) (ds:List D):DX [.lst k (ds.map fun d=>.bl (f d))]=some (.bl (ds.all f)):=by
 show (vK (ds.map fun d=>.bl (f d))).map _=_
 rw [vM]
 show some (D.bl ((ds.map f).all id))=_
 rw [List.all_map];rfl
theorem za (a b:Nat):(!decide (([b]:List Nat)<[a]))=decide (a<=b):=by
 have:(([b]:List Nat)<[a]) ↔ b<a:=by
  constructor
  ·intro h
   cases h with
   | rel h=>exact h
   | cons h=>cases h
  ·intro h;exact .rel h
 by_cases h:a<=b
 ·have h2 : ¬ ([b]:List Nat)<[a]:=fun q=>by have:=this.1 q;omega
  simp [h,h2]
 ·have h2:([b]:List Nat)<[a]:=this.2 (by omega)
  simp [h,h2]
theorem lI {N':List Str} (hk:scope.kind=.function:=by rfl)
 (h1:(∀ y∈scope.names,y.2 ≠ .cell)/\(∀ y∈scope.names,y.2=.local->scope.names.lookup y.1=some .local)/\scope.names.lookup x=some .local/\(∀ y∈scope.names,y.2=.free->y.1∈N'.tail)/\N'.Nodup/\N'[0]?=some x/\
 ∀ y∈N'.tail,scope.names.lookup y=some .free/\(y,NameKind.free)∈scope.names:=by decide +kernel)
 (h2:N'.tail.map X.env.kindOf=N'.tail.map fun _=>some NameKind.cell:=by rfl) (h3:N'.tail=ix.map (fun (i:Nat)=>X.N.getD i Str.empty):=by rfl) (h4:ix.all (fun i=>decide (i<X.N.length))=true:=by rfl):CompOk X scope x N' ix:=by
 obtain ⟨a,b,c,d,e,f,g⟩:=h1
 refine ⟨hk,a,b,c,fun y hy h=>?_,e,f,h3,fun i hi=>?_,g⟩
 ·exact List.map_inj_left.1 h2 _ (d y hy h)
 ·exact of_decide_eq_true (List.all_eq_true.1 h4 i hi)
theorem rd0 (d:D) (Z:Ev):rdV (some (.val d)::Z) 0=.ok d:=rfl
theorem rd1 (a0:Option Sl) (d:D) (Z:Ev):rdV (a0::some (.val d)::Z) 1=.ok d:=rfl
theorem rd2 (a0 a1:Option Sl) (d:D) (Z:Ev):rdV (a0::a1::some (.val d)::Z) 2=.ok d:=rfl
theorem rd3 (a0 a1 a2:Option Sl) (d:D) (Z:Ev):rdV (a0::a1::a2::some (.val d)::Z) 3=.ok d:=rfl
theorem rd4 (a0 a1 a2 a3:Option Sl) (d:D) (Z:Ev):rdV (a0::a1::a2::a3::some (.val d)::Z) 4=.ok d:=rfl
theorem rd5 (a0 a1 a2 a3 a4:Option Sl) (d:D) (Z:Ev):rdV (a0::a1::a2::a3::a4::some (.val d)::Z) 5=.ok d:=rfl
theorem rd6 (a0 a1 a2 a3 a4 a5:Option Sl) (d:D) (Z:Ev):rdV (a0::a1::a2::a3::a4::a5::some (.val d)::Z) 6=.ok d:=rfl
section
variable {f:List D->R D} {ga gb gc gd:Ev->R D} {Z:Ev}
theorem Bf:bf 1 f (aa ga fun _=>.ok []) Z=ga Z>>=fun x=>f [x]:=by
 unfold bf aa
 cases ga Z <;> rfl
theorem yO:bf 2 f (aa ga (aa gb fun _=>.ok [])) Z=ga Z>>=fun x=>gb Z>>=fun y=>f [x,y]:=by
 unfold bf aa
 cases ga Z <;> try rfl
 simp only [aa,R.ok_bind]
 cases gb Z <;> rfl
theorem yj:bf 3 f (aa ga (aa gb (aa gc fun _=>.ok []))) Z=ga Z>>=fun x=>gb Z>>=fun y=>gc Z>>=fun z=>f [x,y,z]:=by
 unfold bf aa
 cases ga Z <;> try rfl
 simp only [aa,R.ok_bind]
 cases gb Z <;> try rfl
 simp only [R.ok_bind]
 cases gc Z <;> rfl
end
def At (N:List Str) (i:Nat) (x:Str):Prop:=N[i]?=some x
theorem at0 {l:List Str}:At (x::l) 0 x:=rfl
theorem at1 {l:List Str}:At (y0::x::l) 1 x:=rfl
theorem at2 {l:List Str}:At (y0::y1::x::l) 2 x:=rfl
theorem at3 {l:List Str}:At (y0::y1::y2::x::l) 3 x:=rfl
theorem at4 {l:List Str}:At (y0::y1::y2::y3::x::l) 4 x:=rfl
theorem at5 {l:List Str}:At (y0::y1::y2::y3::y4::x::l) 5 x:=rfl
theorem at6 {l:List Str} {y5:Str}:At (y0::y1::y2::y3::y4::y5::x::l) 6 x:=rfl
theorem at7 {l:List Str} {y5 y6:Str}:At (y0::y1::y2::y3::y4::y5::y6::x::l) 7 x:=rfl
theorem at8 {l:List Str} {y5 y6 y7:Str}:At (y0::y1::y2::y3::y4::y5::y6::y7::x::l) 8 x:=rfl
theorem at9 {l:List Str} {y5 y6 y7 y8:Str}:At (y0::y1::y2::y3::y4::y5::y6::y7::y8::x::l) 9 x:=rfl
theorem Jh {l:List Str} {y5 y6 y7 y8 y9 y10:Str}:At (y0::y1::y2::y3::y4::y5::y6::y7::y8::y9::y10::x::l) 11 x:=rfl
section
variable {X:Cx} {N:List Str} {i:Nat} {x:Str} {pos:Pos}
end
end L2
namespace L2
open PySem PySem.Spec PyProof.Rows
theorem DK {ga:Ev->R D} (h:aa ga (fun _=>.ok []) Z=.ok ds):ds.length<=1:=by
 unfold aa at h
 cases e:ga Z with
 | ok x=>rw [e] at h;cases h;exact Nat.le_refl _
 | ex C=>rw [e] at h;cases h
 | no=>rw [e] at h;cases h
structure Ref (x:Str) (C:Addr) (mg:Str->Option Value) (base:Heap):Prop where
 ex:∃ bm B newId initId,OwnCls x C bm newId mg base/\ExcBaseFacts B newId initId bm
theorem Un.but {fs:List Addr} (hs:Heap.SameBut C h h'):Un fs [C] H H h h':=by
 have ne:∀ b,b ∉ [C]->b≠C:=fun b hb z=>hb (by rw [z];exact List.mem_singleton.2 rfl)
 exact ⟨fun b o e _ _ hx=>(hs.2 b (ne b hx)).trans e,fun b o e _ _ hx=>⟨o.slots,(hs.2 b (ne b hx)).trans e⟩,fun _ _ _ n _=>n,fun b o e hx=>⟨o,(hs.2 b (ne b hx)).trans e⟩,fun _ _ e=>e,fun _ _ _ e=>e,fun _ ps e=>⟨#[],by rw [Array.append_empty];exact e⟩⟩
section
variable {X:Cx} {elt iter:Expr} {ifs:List Expr} {x:Str} {px pos:Pos} {scope:Scope} {N':List Str} {ix:List Nat} {gi:Ev->R (List D)} {gt:Ev->R Bool} {ge:Ev->R D}
theorem ul (i:Nat) {spos:Pos} (hN:X.N.Nodup) (ok:CompOkT X scope n N' ix) (hcalm:X.calm=true) (hg:∀ C K3 K4 fp,PGF (bN X N' scope C K3 K4 fp) tgt asg) (hown:∀ d Z Z',asg d Z=.ok Z'->(NoOwn Z)->NoOwn Z') (hi:QIF X tgt iter gi) (he:∀ C K3 K4 fp,QF (bN X N' scope C K3 K4 fp) elt ge) (ht:∀ C K3 K4 fp,PTs (bN X N' scope C K3 K4 fp) ifs gt)
 (hni:X.N[i]?=some y:=by rfl) (hy:X.env.scope.names.lookup y=some .local:=by rfl) (hs:∀ x,foldedSetIterable iter X.env x=pure x:=by intro _;rfl)
 (hsw:swapsWith (.ListComp elt [⟨tgt,iter,ifs,0⟩] scope pos) (some (.Name y py)) spos.line X.env=pure true:=by rfl)
 {D:Ends} (I:Inv X pins σ H s) (sE:StE X.K G H σ Z) (hq:(oi n asg gi ix gt ge Z).post (xy X.K G H fun v H1=>D.nx (σ.set i (some v)) H1) (Exx X σ G H)) :
  wpAny (model X.prog X.w) X.A (exec (.Assign [.Name y py] (.ListComp elt [⟨tgt,iter,ifs,0⟩] scope pos) spos) X.env) (SP X pins D) X.xe s:=by
 rw [exec_Assign_Name_used _ _ _ _ hsw]
 refine wpAny_bind (wpAny_standAt (wpAny_bind ?_))
 show wpAny _ X.A (do let _ <- comprehension (.ListComp elt [⟨tgt,iter,ifs,0⟩] scope pos) scope X.env _ (newList []) false (eval iter X.env) (some (assign (.Name y py) X.env))) _ _ s
 refine wpAny_bind (wpAny_mono (wpAny_comprehension_free (use:=some (assign (.Name y py) X.env)) (Q:=fun _ s'=>SP X pins D .next s') rfl hs (fu fun z hz hz2=>I.ok.has z.1 (.inl (ok.fr z hz hz2))) ok.kind ok.names ?_) (fun _ s' hq=>wpAny_pure (wpAny_pure hq)) fun _ _ e=>e)
 have t:tG X (fun G J items=>ItOk X.K G J items) gi σ H (fun J H1=>∃ G1 items,Up G H G1 H1/\StE X.K G1 H1 σ Z/\ItOk X.K G1 J items/\(fV asg gt ge items (cf n ix Z)>>=fun ds=>if ds.length<=sizeLine then R.ok ds else .no).post (xy X.K G H fun v H1=>D.nx (σ.set i (some v)) H1) (Exx X σ G H)):=by
  refine ⟨G,Z,sE,?_⟩
  unfold oi at hq
  cases e:gi Z with
  | ok items=>rw [e] at hq;exact fun J G1 H1 u r=>⟨G1,items,u,sE.up u,r,hq⟩
  | ex C=>rw [e] at hq;exact hq
  | no=>rw [e] at hq;exact hq
 refine thn (hi pins s σ H _ I t) fun v s1 h1=>thn h1 fun itv s2 h2=>?_
 obtain ⟨it,fp,tn,J,H2,e,I2,T,st2,f2,G2,items,u2,sE2,iok,h2⟩:=h2
 subst e
 have h2':(fV asg gt ge items (cf n ix Z)>>=fun ds=>if ds.length<=sizeLine then R.ok ds else .no).post (xy X.K G2 H2 fun v H1=>D.nx (σ.set i (some v)) H1) (Exx X σ G2 H2):=
  h2.mono (fun ds q l vs G' H' u hl r=>q l vs G' H' (u2.trans u) hl r) fun C q=>q.up u2
 refine iS (iter:=iter) (pos:=pos) (RR:=fun acc C=>compPost (model X.prog X.w) X.A X.xe (some (assign (.Name y py) X.env)) (fun _ s'=>SP X pins D .next s') acc C) ok hcalm hg hown he ht I2 T st2 f2 sE2 iok h2' ?_
 intro Dd C s' m vs G' H' up hd hCD _ q hm hos hb hC hCl un hok
 have I3:Inv X pins σ (upd H' Dd (.lst vs)) s':=I2.call' (ch:=fp) hos un hok hb fun b hb'=>by
  obtain ⟨f0,f1,f2',f3,f4,f5⟩:=f2 b hb'
  exact ⟨f3,f1,f4,f5⟩
 have lc:X.env.locals≠C:=Nat.ne_of_lt (Nat.lt_of_lt_of_le I2.lt hCl)
 have cc:∀ z c,X.env.cells.lookup z=some c->c≠C:=fun z c e=>by
  obtain ⟨v,q⟩:=I2.cell z c e
  exact Nat.ne_of_lt (Nat.lt_of_lt_of_le q.lt hCl)
 show wpAny (model X.prog X.w) X.A (assign (.Name y py) X.env (.ref Dd)) _ X.xe s'
 refine wpAny_assign_Name (ji I3 hN hni (.inl hy) (v:=.ref Dd) rfl (fun s'' I4 ⟨a,hsb,ha⟩=>?_) (.inr hy))
 have na:C≠a:=by
  rcases ha with rfl|ha
  ·exact lc.symm
  ·exact (cc _ _ ha).symm
 refine ⟨m,hm.sameBut hsb na,fun h' hs'=>?_⟩
 have I5:=I4.call' (s':={ s'' with heap:=h' }) (H':=upd H' Dd (.lst vs)) (ch:=[C]) rfl (Un.but hs') (I4.hok.sameBut (fun b o hbc e=>(hs'.2 b hbc).trans e) (by rw [aL hCD];exact hC)) I4.bare fun b hb'=>by
  rw [List.mem_singleton.1 hb']
  exact ⟨.inr (Nat.le_trans I2.sz hCl),lc.symm,cc,fun p hp z=>Nat.lt_irrefl _ (Nat.lt_of_lt_of_le (z ▸ Heap.lt_size (I2.pin p hp).1) hCl)⟩
 exact ⟨_,_,I5,q⟩
theorem wg (i:Nat) {spos:Pos} (hN:X.N.Nodup) (ok:CompOkT X scope n N' ix) (hcalm:X.calm=true) (hg:∀ C K3 K4 fp,PGF (bN X N' scope C K3 K4 fp) tgt asg) (hown:∀ d Z Z',asg d Z=.ok Z'->(NoOwn Z)->NoOwn Z') (hi:QIF X tgt iter gi) (he:∀ C K3 K4 fp,QF (bN X N' scope C K3 K4 fp) elt ge) (ht:∀ C K3 K4 fp,PTs (bN X N' scope C K3 K4 fp) ifs gt)
 (hni:X.N[i]?=some y:=by rfl) (hy:X.env.scope.names.lookup y=some .local:=by rfl) (hs:∀ x,foldedSetIterable iter X.env x=pure x:=by intro _;rfl)
 (hsw:swapsWith (.ListComp elt [⟨tgt,iter,ifs,0⟩] scope pos) (some (.Name y py)) spos.line X.env=pure true:=by rfl) :
  QSF X (.Assign [.Name y py] (.ListComp elt [⟨tgt,iter,ifs,0⟩] scope pos) spos) (Cv i (oi n asg gi ix gt ge)):=fun K1 K0 pins s σ H D I h=>by
 obtain ⟨G,Z,sr,h⟩:=h
 have h:ke X K1 K0 D ((oi n asg gi ix gt ge Z).out Z fun ds=>.nx (Z.set i (some (.own ds)))):=h
 refine ul i hN ok hcalm hg hown hi he ht hni hy hs hsw I sr.e ?_
 cases q:oi n asg gi ix gt ge Z with
 | ok ds=>rw [q] at h;exact fun l vs G' H' u hl r=>h _ G' _ ((sr.ups u).setOwn hl r i)
 | ex C=>rw [q] at h;exact Exx.of sr h
 | no=>rw [q] at h;exact h
end
def Il (i:Nat) (ga:Ev->R D):Ev->O:=fun Z=>(ownAt Z i).out Z fun ds=>(ga Z).out Z fun d=>(asL d).out Z fun es=>if ds.length+es.length<=sizeLine then .nx (Z.set i (some (.own (ds++es)))) else .no
def GG (i:Nat) (ga:Ev->R D):Ev->O:=fun Z=>(ownAt Z i).out Z fun ds=>(ga Z).out Z fun d=>if ds.length<sizeLine then .nx (Z.set i (some (.own (ds++[d])))) else .no
def Gw (i j:Nat) (gl:Ev->R (List D)):Ev->O:=fun Z=>(gl Z).out Z fun ds=>(qb [i,j] ds Z).out Z .nx
section
variable {X:Cx} {st:Stmt} {cV body:List Stmt} {e c o:Expr} {es:List Expr} {g:Ev->O} {ga:Ev->R D} {gl:Ev->R (List D)} {pos p p2:Pos}
end
structure Errs (K:PySem.W.Frag) (mg:Str->Option Value) (rs:List Addr) (ts:List (Str×Addr)):Prop where
 na:∀ t∈ts,mg t.1=some (.ref t.2)
 ec:∀ r∈rs,ExcCls K r
 kit:∀ r∈rs,∀ t∈ts,PySem.W.kitOne K (.ref r) (.ref t.2)=some (r==t.2)
 ve:∀ r∈rs,PySem.W.kitOne K (.ref r) (.type "ValueError")=some true
 le:∃ L,mg "LineError"=some (.ref L)/\∀ r∈rs,PySem.W.exmOne K (.ref r) (.ref L)=some true
def uh (rs:List Addr) (T C:Addr):Option Bool:=if C∈rs then some (C==T) else none
def vz (rs:List Addr) (C:Addr):Option Bool:=if C∈rs then some true else none
section
variable {X:Cx} {e:Expr} {ga:Ev->R D} {p p2 pos:Pos} {rs:List Addr} {ts:List (Str×Addr)}
end
section
variable {X:Cx} {e:Expr} {ga:Ev->R D} {p p2 pos:Pos} {rs:List Addr} {ts:List (Str×Addr)}
end
section
variable {CX:CXT} {P:Program} {w:World} {K:PySem.W.Frag} {mg:Str->Option Value} {base:Heap} {N:List Str} {i:Nat} {x:Str} {qual:Str} {scope:Scope} {f a:Addr} {cdv:Value} {A:Around} {outer:List Env} {s:Shared} {H:Hp} {E:XK} {pn:List (Addr×Obj)} {xe:Value->Shared->Prop} {pos p:Pos} {e:Expr} {ga:Ev->R D}
end
section
variable {X:Cx} {body suite:List Stmt} {L6:Stmt} {gb gs:Ev->O} {pos hp tp:Pos} {nm:Str} {rs:List Addr} {ts:List (Str×Addr)}
end
end L2
namespace L2
open PySem PySem.Spec PyProof.Rows
def fl:Nat->D->Bool
 | 0,_=>false
 | n+1,.tup xs=>xs.all (fl n)
 | _+1,.lst _ _=>false
 | _+1,.exc _=>false
 | _+1,_=>true
section
variable {X:Cx} {st:Stmt} {cV body a b:List Stmt} {e c tg:Expr} {g g1 g2:Ev->O} {ga gb:Ev->R D} {gt:Ev->R Bool} {gl:Ev->R (List D)} {pos:Pos}
def IW (i:Nat) (gt:Ev->R Bool) (g1 g2:Ev->O):Ev->O:=fun Z=>(fN (gt (frz i Z))).out Z fun k=>if k=true then g1 Z else g2 Z
def Ir (j i:Nat) (ga:Ev->R D):Ev->O:=fun Z=>(fN (ga (frz j Z))).out Z fun d=>if fl 10 d=true then .nx (Z.set i (some (.val d))) else .no
def GB (j i:Nat) (ga:Ev->R D):Ev->O:=fun Z=>(ownAt Z i).out Z fun ds=>(fN (ga (frz j Z))).out Z fun d=>if ds.length<sizeLine/\fl 10 d=true then .nx (Z.set i (some (.own (ds++[d])))) else .no
noncomputable def Iq (i:Nat) (gk ga:Ev->R D):Ev->O:=fun Z=>(ownAt Z i).out Z fun ds=>(fN (ga (frz i Z))).out Z fun d=>(fN (gk (frz i Z)>>=asI)).out Z fun k=>match ixN ds.length k with
 | some n=>if fl 10 d=true then .nx (Z.set i (some (.own (ds.set n d)))) else .no
 | none=>.no
def JP:D->R (List D)
 | .lst _ xs=>.ok xs
 | .tup xs=>.ok xs
 | _=>.no
def Gs:List D->R (List D)
 | [d]=>JP d
 | _=>.no
def GZ (gl:Ev->R (List D)):Ev->R (List D):=fun Z=>gl Z>>=Gs
end
end L2
namespace L2
open PySem PySem.Spec PyProof.Rows PySem.W
section
variable {X:Cx} {pins:List (Addr×Obj)} {σ:St} {G H:Hp} {s:Shared} {A:Around} {E:Value->Shared->Prop} {Q:Value->Shared->Prop}
end
section
variable {X:Cx} {e:Expr} {ga:Ev->R D} {p p2 p3 p4 pos:Pos} {k:Nat}
end
def fg:List D->Option (List (List Nat))
 | []=>some []
 | .str x::ds=>(fg ds).map (x::·)
 | _=>none
def pQ (sep:List Nat):List (List Nat)->List Nat
 | []=>[]
 | [x]=>x
 | x::y::r=>x++sep++pQ sep (y::r)
def tI:D->List D->Option D
 | .str s,[.lst _ ds]=>match fg ds with
  | some xs=>if (xs.map List.length).sum+xs.length * s.length<=sizeLine then some (.str (pQ s xs)) else none
  | none=>none
 | _,_=>none
theorem Reps.strs {K:PySem.W.Frag}:∀ {vs:List V} {ds:List D} {xs:List (List Nat)},Reps K G vs ds->fg ds=some xs->∃ ys:List Str,vs=ys.map V.str/\ys.map (fun y=>y.cps.toList)=xs
 | _,_,_,.nil,h=>by cases h;exact ⟨[],rfl,rfl⟩
 | _,_,xs,.cons (d:=d) r t,h=>by
  cases d <;> first|(cases h;done)|skip
  rename_i x
  rename_i ds'
  cases q:fg ds' with
  | none=>simp [fg,q] at h
  | some zs=>
   simp [fg,q] at h
   obtain ⟨ys,e1,e2⟩:=Reps.strs t q
   obtain ⟨y,rfl,ey,_⟩:=r.str_inv
   exact ⟨y::ys,by rw [e1];rfl,by rw [List.map_cons,e2,ey];exact h⟩
theorem Vals.strs:∀ {ys:List Str} {us:List Value},Vals (ys.map V.str) us->StrsAre us ys
 | [],_,h=>by cases h;exact .nil
 | y::ys,_,h=>by
  cases h with
  | cons a b=>
   obtain ⟨t,rfl⟩:=a
   exact .cons y t (Vals.strs b)
theorem qH (s:Str):∀ ys:List Str,(Txt.join s ys).cps.toList=pQ s.cps.toList (ys.map fun y=>y.cps.toList):=by
 intro ys
 show (Builtin.Str.glued s ys).cps.toList=_
 rw [StrLaws.glued_eq_join]
 induction ys with
 | nil=>rfl
 | cons y r ih=>
  cases r with
  | nil=>rfl
  | cons z r=>
   show (y++s++Str.join s (z::r)).cps.toList=_
   rw [Str.app_list,Str.app_list,ih];rfl
theorem kr (s:List Nat):∀ xs:List (List Nat),(pQ s xs).length<=(xs.map List.length).sum+xs.length * s.length
 | []=>by simp [pQ]
 | [x]=>by simp [pQ]
 | x::y::r=>by
  have:=kr s (y::r)
  simp only [pQ,List.length_append,List.map_cons,List.sum_cons,List.length_cons,Nat.succ_mul] at this ⊢
  omega
noncomputable def Gk (K:PySem.W.Frag):V->List V->Hp->VK->Prop:=fun x vs H Q=>∃ (y:Str) (p:Addr) (ys:List Str),x=.str y/\vs=[.ref p]/\SqL K H p (ys.map V.str)/\(ys.map (·.length)).sum+ys.length * y.length<=16777216/\Q (.str (Txt.join y ys)) H
theorem CL:MtR X "str.join" (Gk X.K):=by
 intro pins s σ H x xs v us Q I rx rv ⟨y,p,ys,ex,exs,hl,hz,q⟩
 subst ex exs
 obtain ⟨t,rfl⟩:=rx
 obtain ⟨u,rfl,r1⟩:=rv.one
 cases r1
 obtain ⟨its,rvs,pl,_⟩:=I.list hl
 exact join_list pl.isList (Vals.strs (by simpa using rvs)) hz fun t' k=>⟨.str _,H,I.tok _,⟨_,rfl⟩,q⟩
theorem Di (K:PySem.W.Frag):DZ K "str" (Gk K) tI:=by
 intro G H x xs dx ds d Q s rx rs e q
 unfold tI at e
 split at e
 ·split at e
  ·rename_i zs hz
   split at e
   ·rename_i hle
    cases e
    obtain ⟨v,rfl,r1⟩:=rs.one
    obtain ⟨y,rfl,ey,hy⟩:=rx.str_inv
    obtain ⟨a,vs,rfl,hs,rr⟩:=r1.seq_inv
    obtain ⟨ys,e1,e2⟩:=rr.strs hz
    subst e1
    subst e2
    subst ey
    have hle':(ys.map (·.length)).sum+ys.length * y.length<=16777216:=by
     have e3:(ys.map fun y=>y.cps.toList).map List.length=ys.map (·.length):=by
      rw [List.map_map];exact List.map_congr_left fun z _=>Str.len_list z
     rw [e3,List.length_map,Str.len_list] at hle
     exact hle
    refine ⟨y,a,ys,rfl,rfl,hs.mono s,hle',q _ G H (.refl s) (.strL (qH y ys) ?_)⟩
    exact Nat.le_trans (kr _ _) hle
   ·cases e
  ·cases e
 ·cases e
section
variable {X:Cx}
end
end L2
namespace L2
open PySem PySem.Spec PyProof.Rows
open Sem (wp)
open AutoSeq1 (wpAny_loadPart')
section
variable {prog:Program} {w:World} {A:Around} {E:Value->Shared->Prop} {s:Shared}
end
section
variable {prog:Program} {w:World} {A:Around} {E:Value->Shared->Prop} {s:Shared}
end
section
variable {P:Program} {w:World} {K:PySem.W.Frag} {elts:List Expr} {kt:Nat} {tp:Pos}
structure Inner (P:Program) (w:World) (K:PySem.W.Frag) (sq:Hp->List V->Prop) (a it:Addr) (iter:Nat->Heap->Prop):Prop where
 obj:∀ i h,iter i h->∃ o,h.get? it=some o/\∀ v,o.data ≠ .cell v
 at_:∀ i h h',iter i h->(∀ o,h.get? it=some o->h'.get? it=some o)->iter i h'
 inj:∀ (X:Cx),X.K=K->∀ (pins:List (Addr×Obj)) (σ:St) (H:Hp) (s:Shared) xs ys,Inv X pins σ H s->sq H xs->sq H ys->xs=ys
 dr:∀ (X:Cx),X.prog=P->X.w=w->X.K=K->X.calm=true->∀ (pins:List (Addr×Obj)) (σ:St) (H:Hp) (s:Shared) (xs:List V) (c:Nat),Inv X pins σ H s->sq H xs->(∀ i,iter i s.heap->a≠it)->
  ∃ its:List Value,Vals xs its/\xs.length<=sizeLine/\∃ (Pd:Nat->Value->Prop) (St:Nat->Heap->Prop),Draws P w X.A.in1 it [it,a] (c+its.length) Pd St/\(∀ k v,Pd (c+k) v->its[k]?=some v)/\
   (∀ k h,iter k h->(∀ o,s.heap.get? a=some o->h.get? a=some o)->a≠it->St (c+k) h)/\∀ k h,St (c+k) h->iter k h
 fin:∀ (X:Cx),X.prog=P->X.w=w->X.K=K->X.calm=true->∀ (pins:List (Addr×Obj)) (σ:St) (H:Hp) (s:Shared) (xs:List V) (i:Nat) (Q:Value->Shared->Prop) (E:Value->Shared->Prop),Inv X pins σ H s->sq H xs->xs.length<=i->iter i s.heap->
  (∀ h' x,Heap.ExtBut it s.heap h'->(∃ o,h'.get? x=some o/\o.cls=.type "StopIteration")->E (.ref x) { s with heap:=h' })->wpAny (model P w) X.A.in1 (Builtin.SmallTypes.nextOf (.ref it)) Q E s
end
end L2
namespace L2
open PySem PySem.Spec PyProof.Rows
def Ak (c:Nat) (xs:List D):List D:=(List.range xs.length).map fun i=>.tup [.int ((c+i:Nat):Int),xs.getD i .non]
section
variable {X:Cx} {pins:List (Addr×Obj)} {σ:St} {H:Hp} {s:Shared} {elts:List Expr} {kt:Nat} {tp:Pos} {Rr:It->Hp->Prop}
end
def Bl:D->D->R (List D)
 | .tup xs,.int c=>if 0<=c/\c<1073741824 then .ok (Ak c.toNat xs) else .no
 | _,_=>.no
section
variable {X:Cx} {a b:Expr} {ga gb:Ev->R D} {elts:List Expr} {kt:Nat} {p pos tp kp:Pos}
def Ea (ga gb:Ev->R D):Ev->R (List D):=fun Z=>ga Z>>=fun x=>gb Z>>=fun c=>Bl x c
end
end L2
namespace L2
open PySem PySem.Spec PyProof.Rows
section
variable {X:Cx} {elt iter tgt:Expr} {ifs:List Expr} {pos:Pos} {scope:Scope} {n:Nat} {N':List Str} {ix:List Nat} {asg:D->Ev->R Ev} {gi:Ev->R (List D)} {gt:Ev->R Bool} {ge:Ev->R D}
end
section
variable {X:Cx}
end
def HD (i j:Nat) (ga:Ev->R D) (gl:Ev->R (List D)):Ev->O:=fun Z=>(ga Z).out Z fun d=>(gl Z).out Z fun ds=>.nx ((Z.set i (some (.val d))).set j (some (.own ds)))
section
variable {X:Cx} {ga:Ev->R D} {gl:Ev->R (List D)} {pos:Pos}
end
end L2
namespace L2
open PySem PySem.Spec PyProof.Rows
section
variable {P:Program} {w:World} {K:PySem.W.Frag} {elts:List Expr} {kt:Nat} {tp:Pos}
end
section
variable {X:Cx} {a b:Expr} {gl:Ev->R (List D)} {elts:List Expr} {kt:Nat} {p pos tp:Pos}
end
end L2
namespace L2
open PySem PySem.Spec PyProof.Rows
def GA:D->D->R D
 | .str x,.int k=>if k = -1 then .ok (.str x.reverse) else .no
 | .lst _ xs,.int k=>if k = -1 then .ok (.lst false xs.reverse) else .no
 | _,_=>.no
def JZ (ga gs:Ev->R D):Ev->R D:=fun Z=>ga Z>>=fun x=>gs Z>>=fun k=>GA x k
section
variable {X:Cx} {a st:Expr} {ga gs:Ev->R D} {pos p2:Pos}
def fK:List D->Option D
 | [.bl b]=>some (.int (if b=true then 1 else 0))
 | _=>none
theorem wR:jW X (.type "int") (fun xs H Q=>∃ b:Bool,xs=[.bl b]/\Q (.int (if b=true then 1 else 0)) H):=by
 intro pins s σ H xs us Q I r ⟨b,ex,q⟩
 subst ex
 obtain ⟨u,rfl,r1⟩:=r.one
 cases r1
 exact call_int_bool ⟨.int _,H,I.tok _,⟨_,rfl⟩,q⟩
theorem zT (K:PySem.W.Frag):E5 K (fun xs H Q=>∃ b:Bool,xs=[.bl b]/\Q (.int (if b=true then 1 else 0)) H) fK:=by
 intro G H xs ds d Q s r e q
 unfold fK at e
 split at e
 ·cases e
  obtain ⟨v,rfl,r1⟩:=r.one
  cases r1
  exact ⟨_,rfl,q _ G H (.refl s) (.int _)⟩
 ·cases e
end
end L2
namespace L2
open PySem PySem.Spec PyProof.Rows
noncomputable def uQ (gt:Ev->R Bool) (g:Ev->O):Nat->Ev->O
 | 0,_=>.no
 | n+1,Z=>(gt Z).out Z fun k=>if k=true then (match g Z with
  | .nx Z2=>uQ gt g n Z2
  | .ct Z2=>uQ gt g n Z2
  | .bk Z2=>.nx Z2
  | .rt d=>.rt d
  | .re d Z2=>.re d Z2
  | .ex C Z2=>.ex C Z2
  | .no=>.no) else .nx Z
def EU (n:Nat) (gt:Ev->R Bool) (g:Ev->O):Ev->O:=fun Z=>uQ gt g n Z
section
variable {X:Cx} {c e:Expr} {body:List Stmt} {gt:Ev->R Bool} {g:Ev->O} {ga:Ev->R D} {pos:Pos}
end
end L2
namespace L2
open PySem PySem.Spec PyProof.Rows
def xM (gs:List (Ev->R D)) (Z:Ev):D->R D
 | .int i=>if 0<=i then (match gs[i.toNat]? with
  | some g=>g Z
  | none=>.no) else .no
 | _=>.no
def GR (gs:List (Ev->R D)) (gi:Ev->R D):Ev->R D:=fun Z=>gi Z>>=xM gs Z
def inD (x:D):List D->Option Bool
 | []=>some false
 | y::ys=>(eqD 40 y x).bind fun k=>if k=true then some true else inD x ys
def inF:D->D->Option D
 | x,.lst _ ys=>if inD x ys=some false then some (.bl false) else none
 | _,_=>none
section
variable {X:Cx} {a b ix e:Expr} {es:List Expr} {ga gb gi:Ev->R D} {gl:Ev->R (List D)} {pos p1 p2 pl sp:Pos}
end
end L2
namespace L2
open PySem PySem.Spec PyProof.Rows
section
variable {X:Cx} {a b:Expr} {ga gb:Ev->R D} {pos:Pos}
structure KTup (K:PySem.W.Frag) (c:Addr) (ls:List (List Nat)):Prop where
 ex:∃ (o:Obj) (its:Array Value) (n:Nat) (vs:List V),K.lookup c=some o/\o.cls=.type "tuple"/\o.data=.seq its n/\its.size<=sizeLine/\Vals vs its.toList/\∀ G,Reps K G vs (ls.map .str)
end
end L2
namespace L2
open PySem PySem.Spec PyProof.Rows
def Je (n:Nat):List Nat:=(Nat.toDigits 10 n).map Char.toNat
section
variable {X:Cx} {a b c e e1 e2 e3 e4 e5:Expr} {ga gb gc g1 g2' g3' g4 g5:Ev->R D} {gl:Ev->R (List D)} {pos p:Pos}
def JH:D->R D
 | .int i=>if 0<=i/\i<10000000000 then .ok (.str (Je i.toNat)) else .no
 | .str x=>.ok (.str x)
 | _=>.no
def tH:List (Ev->R D)->List Nat->Ev->R D
 | [],out=>fun _=>.ok (.str out)
 | g::gs,out=>fun Z=>g Z>>=fun d=>match d with
  | .str x=>if (out++x).length<=sizeLine then tH gs (out++x) Z else .no
  | _=>.no
def HG (gs:List (Ev->R D)):Ev->R D:=tH gs []
end
end L2
namespace L2
open PySem PySem.Spec PyProof.Rows
section
variable {X:Cx} {a b c e:Expr} {ga:Ev->R D} {gl:Ev->R (List D)} {pos p:Pos} {tg:Expr}
end
end L2
namespace L2
open PySem PySem.Spec PyProof.Rows
def Is (j i:Nat) (gl:Ev->R (List D)):Ev->O:=fun Z=>(fN (gl (frz j Z))).out Z fun ds=>if ds.all (fl 10)=true then .nx (Z.set i (some (.own ds))) else .no
section
variable {X:Cx} {elt iter:Expr} {ifs:List Expr} {x:Str} {px pos:Pos} {scope:Scope} {N':List Str} {ix:List Nat} {gi:Ev->R (List D)} {gt:Ev->R Bool} {ge:Ev->R D}
end
end L2
namespace L2
open PySem PySem.Spec PyProof.Rows
section
variable {prog:Program} {w:World} {A:Around} {E:Value->Shared->Prop} {s:Shared}
structure Z3 (z TI TO i1 i2 i3 l1 l2 l3:Addr):Prop where
 nd:[z,TI,TO,i1,i2,i3].Nodup
 ap:∀ l∈[l1,l2,l3],l ∉ [z,TO,i1,i2,i3]
end
section
variable {P:Program} {w:World} {K:PySem.W.Frag} {elts:List Expr} {kt:Nat} {tp:Pos}
end
section
variable {X:Cx} {a b c:Expr} {gl:Ev->R (List D)} {elts:List Expr} {kt:Nat} {p pos tp:Pos}
end
end L2
namespace L2
open PySem PySem.Spec PyProof.Rows
section
variable {X:Cx} {a b e:Expr} {ga gb:Ev->R D} {gl:Ev->R (List D)} {pos p:Pos}
end
end L2
namespace L2
open PySem PySem.Spec PyProof.Rows
noncomputable def vt (asg:D->Ev->R Ev) (gt:Ev->R Bool) (ge:Ev->R D):List D->Ev->R (List D)
 | [],_=>.ok []
 | d::ds,Z=>fN (asg d Z)>>=fun Z1=>fN (gt Z1)>>=fun k=>if k=true then ge Z1>>=fun x=>vt asg gt ge ds Z1>>=fun xs=>.ok (x::xs) else vt asg gt ge ds Z1
def Ee (gi:Ev->R (List D)) (ix:List Nat) (gt:Ev->R Bool) (ge:Ev->R D):Ev->R (List D):=fun Z=>gi Z>>=fun items=>if items.length<=sizeLine then vt (jM 0) gt ge items (kN ix Z) else .no
section
variable {X:Cx} {elt iter:Expr} {ifs:List Expr} {x:Str} {px pos:Pos} {scope:Scope} {N':List Str} {ix:List Nat} {gi:Ev->R (List D)} {gt:Ev->R Bool} {ge:Ev->R D}
end
end L2
namespace L2
open PySem PySem.Spec PyProof.Rows
section
variable {X:Cx} {a b c e ix:Expr} {es:List Expr} {ga gb gi:Ev->R D} {gl:Ev->R (List D)} {pos p p1 p2 p3 pl sp:Pos}
def EK (c:Nat):List Nat->Option (List Nat×List Nat)
 | []=>none
 | d::r=>if d=c then some ([],r) else (EK c r).map fun p=>(d::p.1,p.2)
def DJ (c:Nat) (x:List Nat):List Nat×List Nat×List Nat:=match EK c x with
 | some (p,q)=>(p,[c],q)
 | none=>(x,[],[])
def Hn:D->List D->Option D
 | .str x,[.str [c]]=>if x.length<=10000 then some (.tup [.str (DJ c x).1,.str (DJ c x).2.1,.str (DJ c x).2.2]) else none
 | _,_=>none
end
end L2
namespace L2
open PySem PySem.Spec PyProof.Rows
theorem Ej {w:World} {K:PySem.W.Frag} {mg:Str->Option Value} {base:Heap} {dV kV ct:Value}
 {N:List Str} {A:Around} {outer:List Env} {args:Args} {Q:VK} {E:XK} {t:TS} (lk:K.lookup f=some ⟨oc,od,.func (PySem.W.fnOf name qual params body scope dV kV doc pm an cdv ct),osl⟩) (hcd:PySem.W.codeIn K cdv qual=true) (S:FnScope N ps scope)
 (hl:vs.length=ps.length) (hr:Room (k+1) A) (e0:Env0 P w K mg base A outer s H) (hb:BindsTo s (PySem.W.fnOf name qual params body scope dV kV doc pm an cdv ct) args (ps.zip us)) (r:Vals vs us)
 (ht:PSs (cS CX P w K mg base N qual scope f cdv A outer s H E) body t) (hq:t { nx:=fun _ H'=>Q .non H',rt:=Q } (eD N vs) H) :
  codeAny (model P w) A (.call (.ref f) args) (CR CX outer P w H s Q E) s:=by
 have KX:K.In s.heap:=e0.mod.kin.keeps fun b o e=>(e0.bs b o e).1
 have lim:s.heap.NoLimit:=e0.mod.nolimit.keeps fun b o e=>(e0.bs b o e).1
 have hkind:∀ y∈ps.zip us,scope.names.lookup y.1=some .local\/(scope.names.lookup y.1=some .cell/\((cellsFrom (s.heap.objs.size+1) scope.names []).lookup y.1).isSome=true):=fun ⟨n,v⟩ hy=>by
  rcases S.par n (List.of_mem_zip hy).1 with q|q
  ·exact .inl q
  ·exact .inr ⟨q,PySem.W.cellsFrom_some _ _ _ (.inl q)⟩
 refine codeAny_call_function hr.depth (KX _ _ lk) rfl S.co S.gen rfl (PySem.W.codeRec_of KX hcd) (hb _ _ _ _ ?_)
 refine wpAny_newFunctionEnv_cells S.kind hkind fun env he s1 x=>?_
 subst he
 refine ⟨lim.keeps x.toInCall.keep,codeAny_func ?_⟩
 have I:Inv (cS CX P w K mg base N qual scope f cdv A outer s H E) [] (eD N vs) H s1:=ll S hr.hd e0 hl r x
 refine wpAny_mono (ht [] s1 (eD N vs) H _ I hq) (fun fl s' hs=>?_) fun e s' hs=>hs
 have fin:∀ {σ':St} {H':Hp} {v:V} {u:Value},Inv (cS CX P w K mg base N qual scope f cdv A outer s H E) [] σ' H' s'->RelV v u->Q v H'->CE outer P w H s Q u s':=
  fun {σ' H' v u} J rv q=>⟨v,H',J.os,J.bare,J.base,J.hok,rv,q⟩
 cases fl with
 | ret u=>
  obtain ⟨v,σ',H',J,rv,q⟩:=hs
  exact fin J rv q
 | next=>
  obtain ⟨σ',H',J,q⟩:=hs
  exact fin (v:=V.non) (u:=Value.none) J rfl q
 | brk=>
  obtain ⟨_,_,_,q⟩:=hs
  exact False.elim q
 | cont=>
  obtain ⟨_,_,_,q⟩:=hs
  exact False.elim q
noncomputable abbrev sj (P:Program) (w:World) (K:PySem.W.Frag) (mg:Str->Option Value) (base:Heap) (N:List Str) (qual:Str) (scope:Scope) (cl:List (Str×Addr)) (f:Addr) (cd:Value) (A:Around) (outer:List Env) (s:Shared) (H:Hp) (E:XK):Cx:=
 gCx P w K mg base N (PySem.W.envX qual scope s.heap.objs.size f cd cl) (fun _=>false) A outer s H E
structure ClOk (N:List Str) (scope:Scope) (cl:List (Str×Addr)) (σ:St) (H:Hp) (h:Heap):Prop where
 kind:scope.kind=.function
 nocell:∀ y∈scope.names,y.2 ≠ .cell
 inj:∀ y z c,cl.lookup y=some c->cl.lookup z=some c->y=z
 has:∀ y,scope.names.lookup y=some .free->∃ c,cl.lookup y=some c
 cell:∀ y c,cl.lookup y=some c->H c=none/\∃ v,h.IsCell c v
 val:∀ (i:Nat) y v,N[i]?=some y->σ[i]?=some (some v)->∃ u c,RelV v u/\scope.names.lookup y=some .free/\cl.lookup y=some c/\h.IsCell c (some u)
 len:σ.length=N.length
theorem C5 {w:World} {K:PySem.W.Frag} {mg:Str->Option Value} {base:Heap} {N:List Str} {cl:List (Str×Addr)} {A:Around} {outer:List Env} {E:XK} {tk:Nat}
 (C:ClOk N scope cl σ H s.heap) (hd:A.handled=none) (e0:Env0 P w K mg base A outer s H) (hns:h'.Ns s.heap.objs.size fun x=>List.lookup x ([]:List (Str×Value)).reverse)
 (hk:∀ b o,s.heap.get? b=some o->h'.get? b=some o) :
  Inv (sj P w K mg base N qual scope cl f cd A outer s H E) [] σ H { s with heap:=h',toks:=tk }:=by
 have noA:∀ b:Addr,b ∉ (sj P w K mg base N qual scope cl f cd A outer s H E).ex:=fun b z=>absurd (show b∈([]:List Addr) from z) (by simp)
 refine ⟨⟨e0.mod,C.kind,rfl,rfl,Nat.le_refl _,C.inj,fun y hy=>?_,fun y c z _=>?_,fun _=>hd,Around.frames_deeper e0.frames,.inr ⟨rfl,rfl⟩,fun b z=>absurd z (noA b),e0.bs,e0.bsz,fun b _ _=>noA b,fun b z=>absurd z (noA b),e0.funs,e0.frf,e0.tabs⟩,
  rfl,e0.bare,Un.kept hk,⟨_,hns,fun i y v h1 h2 h3=>?_⟩,fun y c h=>?_,e0.hok.fresh (Nat.le_refl _),fun y c h=>(C.cell y c h).1,fun p hp=>absurd (show p∈([]:List (Addr×Obj)) from hp) (by simp),e0.hok.kept hk,C.len⟩
 ·have hy:scope.names.lookup y=some .cell\/scope.names.lookup y=some .free:=hy
  rcases hy with hy|hy
  ·exact absurd rfl (C.nocell _ (PySem.mem_of_lookup hy))
  ·exact C.has y hy
 ·cases z
 ·obtain ⟨u,c,r,k,e,q⟩:=C.val i y v h1 h2
  exact ⟨u,r,.inr ⟨.inr k,c,e,q.keeps hk⟩⟩
 ·obtain ⟨_,v,q⟩:=C.cell y c h
  exact ⟨v,q.keeps hk⟩
section
variable {Y:Cx} {pins:List (Addr×Obj)} {σY σ:St} {H:Hp} {s:Shared} {f:Addr} {o:Obj} {N:List Str} {qual:Str} {params:Arguments} {body:Expr} {scope:Scope} {cl:List (Str×Addr)} {pm cd ctv:Value} {k:Nat} {te:TE} {Q:VK} {E:XK}
theorem AS (J:Inv Y pins σY H s) (hr:Room (k+1) Y.A) (hf:s.heap.get? f=some o) (hfd:o.data=.func (PySem.W.kla_fn "<lambda>" qual params body scope cl pm cd ctv)) (hcd:s.heap.CodeRec cd qual)
 (hp:bindArgs (PySem.W.kla_fn "<lambda>" qual params body scope cl pm cd ctv) ⟨[],[]⟩=pure []) (hco:scope.isCoroutine=false) (hge:scope.isGenerator=false) (C:ClOk N scope cl σ H s.heap)
 (hb:PE (sj Y.prog Y.w Y.K Y.mg Y.base N qual scope cl f cd Y.A Y.stack s H E) body te) (h:te σ H Q) :
  wpAny (model Y.prog Y.w) Y.A (call (.ref f) []) (EP Y pins σY Q) (fun e s'=>CXo Y.prog Y.w Y.stack H s E e s') s:=by
 have lim:s.heap.NoLimit:=J.nolimit
 refine wpAny_call (codeAny_mono (R:=CR (CXo Y.prog Y.w) Y.stack Y.prog Y.w H s Q E) ?_ fun r s' hq=>?_)
 ·refine PySem.W.kla_callFunE hr.depth hf hfd hco hge rfl hcd (wpAny_of_eq hp ?_)
  refine wpAny_newFunctionEnv C.nocell (by intro y hy;simp at hy) (fun K8 M9 M7=>?_) C.kind
  have old:∀ b ob,s.heap.get? b=some ob->K8.get? b=some ob:=fun b ob e=>M7.extBut b ob (Nat.ne_of_lt (Heap.lt_size e)) (Heap.get?_push_of_some _ e)
  refine ⟨lim.keeps old,PySem.W.kla_codeExpr ?_⟩
  refine wpAny_mono (hb [] _ σ H Q (C5 C hr.hd J.env0 M9 old) h) (fun u s' hs=>?_) fun e s' hs=>hs
  obtain ⟨v,H',I',rv,q⟩:=hs
  exact ⟨v,H',I'.os,I'.bare,I'.base,I'.hok,rv,q⟩
 ·cases r with
  | error e=>exact hq
  | ok fl=>
   cases fl with
   | ret u=>exact J.after hq
   | _=>exact False.elim hq
end
theorem wY {a b c cv:Value}:∀ {l:List Value},TriplesOk l->codeAmong pos (l++[a,b,c])=some cv->cv=c\/codeAmong pos l=some cv:=fun {l}=>by
 induction l using TriplesOk.induct with
 | case1=>
  intro _ h
  left
  rw [List.nil_append,codeAmong.eq_def] at h
  repeat' split at h
  all_goals simp_all [codeAmong]
 | case2 i t j u v r ih=>
  intro ht h
  rw [TriplesOk.eq_2] at ht
  simp only [List.cons_append] at h
  rw [codeAmong.eq_1] at h ⊢
  split at h
  ·rename_i q;rw [if_pos q];exact .inr h
  ·rename_i q;rw [if_neg q];exact ih ht h
 | case3 x h1 h2=>
  intro ht
  rw [TriplesOk.eq_3 x h1 h2] at ht
  exact ht.elim
section
variable {X:Cx} {pins:List (Addr×Obj)} {σ:St} {H:Hp} {s:Shared} {params:Arguments} {body:Expr} {scope:Scope} {pos:Pos} {c P:Addr} {ps:Array Value} {Q:Value->Shared->Prop}
structure Lam (X:Cx) (pins:List (Addr×Obj)) (σ:St) (H:Hp) (s:Shared) (params:Arguments) (body:Expr) (scope:Scope) (f:Addr) (cd ctv pm:Value) (H1:Hp) (s1:Shared):Prop where
 inv:Inv X pins σ H1 s1
 hh:Same H H1
 new:∀ a,H a=none->H1 a=none\/s.heap.objs.size<=a
 free:H1 f=none
 fn:s1.heap.get? f=some { cls:=.type "function",data:=.func (PySem.W.kla_fn "<lambda>" (X.env.qual++"<lambda>") params body scope (oG X.env scope.names []) pm cd ctv) }
 codeH:∃ c o vs t u,cd=.ref c/\H1 c=some (.frz o u)/\o.data=.fields vs/\vs[1]?=some (.str (X.env.qual++"<lambda>") t)
theorem zM (I:Inv X pins σ H s) (hdef:defaultsOf params X.env=([],[])) (hc:X.env.code=.ref c) (hcd:PySem.W.CodeHd s.heap c P) (hT:H P=some (.tbl ps)) (hq:yD ps=X.env.qual++"<lambda>") (hbm:s.heap.BuiltinsAt X.mg P)
 (hfr:∀ y∈scope.names,y.2=.free->X.env.kindOf y.1=some .cell) (hgP:mainGlobals≠P) (h:∀ f cd ctv pm H1 s1,Lam X pins σ H s params body scope f cd ctv pm H1 s1->Q (.ref f) s1) :
  wpAny (model X.prog X.w) X.A (eval (.Lambda params body scope pos) X.env) Q X.xe s:=by
 have clos:closureFor scope X.env=pure (oG X.env scope.names []):=fu fun y hy hk=>I.ok.has y.1 (.inl (hfr y hy hk))
 have hns:s.heap.Ns mainGlobals X.mg:=by
  obtain ⟨o,es,ep,e,r⟩:=I.ok.mod.glob
  exact ⟨o,es,ep,I.bk _ _ e,r⟩
 obtain ⟨qs,hP,tr,co⟩:=I.hok P _ hT
 have neP:∀ {b:Addr},H b=none->b≠P:=fun e z=>by rw [z,hT] at e;cases e
 refine PySem.W.kla_eval hdef ?_
 cases q:codeAmong pos qs.toList with
 | some cv=>
  obtain ⟨c',o',vs',t',e1,e2,e3,e4⟩:=co pos cv q
  refine PySem.W.kla_makeFunctionHit clos I.ok.glob hns hc hcd hP tr q hbm fun ctv h' tk old sz=>?_
  have old2:∀ b o,s.heap.get? b=some o->∀ ob,(h'.push ob).get? b=some o:=fun b o e ob=>Heap.get?_push_of_some _ (old b o e)
  refine h _ cv ctv _ H _ ⟨I.kept (t':=tk) fun b o e=>old2 b o e _,.refl _,fun a e=>.inl e,I.hok.fresh sz,Heap.get?_push_size _ rfl,⟨c',o',vs',t',_,e1,e2,e3,?_⟩⟩
  rw [<- hq];exact e4
 | none=>
  refine PySem.W.kla_makeFunction clos I.ok.glob hns hc hcd hP tr q hgP hbm fun c' ctv h' tk ext lo hi cr tab=>?_
  have fr:H c'=none:=I.hok.fresh lo
  obtain ⟨c2,oc,vs,t,z1,z2,z3,z4⟩:=cr
  cases z1
  have old:∀ b o,b≠P->s.heap.get? b=some o->∀ ob,(h'.push ob).get? b=some o:=fun b o n e ob=>Heap.get?_push_of_some _ (ext b o n e)
  have neU:∀ {b:Addr} {o:HO},H b=some o->upd H c' (.frz oc (.own P)) b=some o:=fun e=>by rw [aL (aO e fr)];exact e
  have un:∀ ob,Un (frs X.stack) [] H (upd H c' (.frz oc (.own P))) s.heap (h'.push ob):=fun ob=>by
   refine ⟨fun b o e n _ _=>old b o (neP n) e ob,fun b o e n _ _=>⟨o.slots,old b o (neP n) e ob⟩,fun b o e n _=>?_,fun b o e _=>?_,fun b xs e=>neU e,fun b o u e=>neU e,fun b ps e=>⟨#[],by rw [neU e];simp⟩⟩
   ·rw [aL (fun z=>by have:=Heap.lt_size e;rw [z] at this;exact absurd this (Nat.not_lt.mpr lo))];exact n
   ·by_cases z:b=P
    ·rw [z];exact ⟨_,Heap.get?_push_of_some _ tab⟩
    ·exact ⟨o,old b o z e ob⟩
  have hok:∀ ob,HOk X.prog X.w (upd H c' (.frz oc (.own P))) (h'.push ob):=fun ob b o e=>by
   by_cases z:b=c'
   ·subst z
    rw [aX] at e
    cases e
    exact ⟨Heap.get?_push_of_some _ z2,oc,Heap.get?_push_of_some _ z2⟩
   ·rw [aL z] at e
    by_cases zP:b=P
    ·subst zP
     rw [hT] at e
     cases e
     refine ⟨_,Heap.get?_push_of_some _ tab,?_,fun pos' cv q'=>?_⟩
     ·rw [Array.toList_append];exact TriplesOk_snoc _ _ _ _ tr
     ·rw [Array.toList_append] at q'
      rcases wY tr q' with y|y
      ·subst y
       refine ⟨c',oc,vs,t,rfl,aX,z3,?_⟩
       rw [hq];exact z4
      ·obtain ⟨c2,o3,vs3,t3,y1,y2,y3⟩:=co pos' cv y
       exact ⟨c2,o3,vs3,t3,y1,neU y2,y3⟩
    ·refine (I.hok b o e).stay (fun b' u hb' q'=>old b' u (fun z=>?_) q' ob) (fun b' e'=>neU e') (fun b' xs e'=>neU e') (fun b' ob' u' e'=>neU e')
     rcases hb' with hb'|hb'
     ·exact zP (hb' ▸ z)
     ·rw [z,hT] at hb';cases hb'
  refine h _ (.ref c') ctv _ (upd H c' (.frz oc (.own P))) _ ⟨I.call' (s':={ s with heap:=_,toks:=tk }) (ch:=[]) rfl (un _) (hok _) I.bare (fun b z=>absurd z (by simp)),fun b o e=>neU e,fun a e=>?_,?_,Heap.get?_push_size _ rfl,⟨c',oc,vs,t,_,rfl,aX,z3,z4⟩⟩
  ·by_cases z:a=c'
   ·exact .inr (z ▸ lo)
   ·exact .inl (by rw [aL z];exact e)
  ·rw [aL (Nat.ne_of_gt hi)]
   refine I.hok.fresh (Nat.le_trans lo (Nat.le_of_lt hi))
end
end L2
namespace L2
open PySem PySem.Spec PyProof.Rows
structure FnFH (P:Program) (w:World) (K:PySem.W.Frag) (mg:Str->Option Value) (base:Heap) (k:Nat) (f:Addr) (fd:FuncData) (ps:List Str) (g:List D->R D):Prop where
 run:∀ (A:Around) (x:Addr) (outer:List Env) (s:Shared) (H:Hp) (args:Args) (us:List Value) (vs:List V) (Q:VK) (E:XK),Room k A->Env0 P w K mg base A outer s H->BindsTo s fd args (ps.zip us)->Vals vs us->(vs.length=ps.length/\spF K g vs H Q E)->
  codeAny (model P w) (A.mark (some (.ref x))) (.call (.ref f) args) (CR (CXo P w) outer P w H s Q E) s
theorem FnFH.to {w:World} {K:PySem.W.Frag} {mg:Str->Option Value} {base:Heap} {g':List D->R D} (F:FnFH P w K mg base k f fd ps g) (h:∀ ds,ds.length=ps.length->g' ds=.no\/g ds=g' ds):FnFH P w K mg base k f fd ps g':=by
 refine ⟨fun A x outer s H args us vs Q E hr e0 hb hv ⟨hl,G,ds,sub,r,q⟩=>F.run A x outer s H args us vs Q E hr e0 hb hv ⟨hl,G,ds,sub,r,?_⟩⟩
 rcases h ds (by rw [<- r.length];exact hl) with z|z
 ·rw [z] at q;exact q.elim
 ·rw [z];exact q
structure CalleeH (P:Program) (w:World) (K:PySem.W.Frag) (mg:Str->Option Value) (base:Heap) (x:Str) (k n:Nat) (g:List D->R D):Prop where
 ex:∃ f fd ps,FnFH P w K mg base k f fd ps g/\mg x=some (.ref f)/\PySem.W.keepIn K (.ref f)=true/\Binds K fd ps []/\ps.length=n
theorem CalleeH.mono {w:World} {K:PySem.W.Frag} {mg:Str->Option Value} {base:Heap} (c:CalleeH P w K mg base x k n g) (k':Nat) (h:k<=k':=by decide):CalleeH P w K mg base x k' n g:=by
 obtain ⟨f,fd,ps,F,hm,hk,hb,e⟩:=c.ex
 exact ⟨f,fd,ps,⟨fun A a outer s H args us vs Q E hr=>F.run A a outer s H args us vs Q E (hr.mono h)⟩,hm,hk,hb,e⟩
theorem Fun.calleeH {w:World} {K:PySem.W.Frag} {mg:Str->Option Value} {base:Heap} (F:Fun K x x st f fd) (hm:mg x=some (.ref f)) (ok:FnFH P w K mg base k f fd ps g)
 (h:∀ (kV doc pm:Value) (an:Option Addr) (cdv ct:Value) (us:List Value),us.length=ps.length->bindArgs (PySem.W.fnOf x x (cB st) (bi st) (ai st) .none kV doc pm an cdv ct) ⟨us,[]⟩=pure (ps.zip us)):CalleeH P w K mg base x k ps.length g:=
 ⟨f,fd,ps,ok,hm,F.kp,F.binds h,rfl⟩
section
variable {Y:Cx} {a:Addr} {xe:Value->Shared->Prop} {k n:Nat} {x:Str} {p pos:Pos} {e:Expr} {es:List Expr} {gl:Ev->R (List D)} {g:List D->R D}
end
noncomputable def Bu (P:Program) (w:World) (K:PySem.W.Frag) (mg:Str->Option Value) (base:Heap) (k:Nat) (s1:Shared) (G1 H1:Hp) (f:Addr) (m:R D):Prop:=
 ∀ (Y:Cx) (pins:List (Addr×Obj)) (σY:St) (G2 H2:Hp) (s2:Shared) (fs:List Addr) (Q:VK),Y.prog=P->Y.w=w->Y.K=K->Y.mg=mg->Y.base=base->Inv Y pins σY H2 s2->Room k Y.A->Un fs [] H1 H2 s1.heap s2.heap->Up G1 H1 G2 H2->
  m.post (Fin G2 H2 (Rep Y.K) Q) (Exx Y σY G2 H2)->(∃ o fd,s2.heap.get? f=some o/\o.data=.func fd)/\wpAny (model Y.prog Y.w) Y.A (call (.ref f) []) (EP Y pins σY Q) Y.xe s2
theorem IsCell.un {fs:List Addr} {H2:Hp} {h1 h2:Heap} {c:Addr} {v:Option Value} (u:Un fs [] H1 H2 h1 h2) (hn:H1 c=none) (h:h1.IsCell c v):h2.IsCell c v:=by
 obtain ⟨o,e,d⟩:=h
 obtain ⟨sl,q⟩:=u.any e hn (by simp)
 exact ⟨_,q,d⟩
theorem ClOk.un {fs:List Addr} {N:List Str} {cl:List (Str×Addr)} {H2:Hp} {h1 h2:Heap} (C:ClOk N scope cl σ H1 h1) (u:Un fs [] H1 H2 h1 h2):ClOk N scope cl σ H2 h2:=
 ⟨C.kind,C.nocell,C.inj,C.has,fun y c e=>by
  obtain ⟨n,v,q⟩:=C.cell y c e
  obtain ⟨o,e1,d⟩:=id q
  exact ⟨u.free c o e1 n (by simp),v,IsCell.un u n q⟩,fun i y v e1 e2=>by
  obtain ⟨x,c,r,k,e,q⟩:=C.val i y v e1 e2
  exact ⟨x,c,r,k,e,IsCell.un u (C.cell y c e).1 q⟩,C.len⟩
structure Told (P:Program) (w:World) (K:PySem.W.Frag) (mg:Str->Option Value) (base:Heap) (x:Str) (k j:Nat) (g:R D->R D):Prop where
 ex:∃ ft,mg x=some (.ref ft)/\PySem.W.keepIn K (.ref ft)=true/\∀ (A:Around) (outer:List Env) (s1:Shared) (G1 H1:Hp) (f:Addr) (m:R D) (Q:VK) (E:XK),Room k A->Env0 P w K mg base A outer s1 H1->Same G1 H1->Bu P w K mg base j s1 G1 H1 f m->
  (g m).post (Fin G1 H1 (Rep K) Q) (fun C=>∀ G' H',Up G1 H1 G' H'->E (.ref C) none H')->codeAny (model P w) A (.call (.ref ft) ⟨[.ref f],[]⟩) (CR (CXo P w) outer P w H1 s1 Q E) s1
section
variable {P:Program} {w:World} {K:PySem.W.Frag} {mg:Str->Option Value} {base:Heap} {x y:Str} {st:Stmt} {ft:Addr} {fd:FuncData} {k:Nat} {L6:Stmt} {suite:List Stmt} {p1 p2 p3 tp hp tpos:Pos} {nm tn:Str} {gs:Ev->O} {fe:Addr->Option Bool} {Ct:Addr}
theorem vB {M:Model} {o:Obj} (e:h.get? f=some o) (d:o.data=.func fd):PySem.W.Looks M h (keeperOf (.ref f)) .frame:=by
 unfold keeperOf
 exact (PySem.W.Looks.ld e).andThen (by rw [d];exact .now)
end
end L2
namespace L2
open PySem PySem.Spec PyProof.Rows
structure LamAt (X:Cx):Prop where
 ex:∃ c P q,X.env.code=.ref c/\(∀ h,X.K.In h->PySem.W.CodeHd h c P)/\xk X.base P q/\q=X.env.qual++"<lambda>"/\X.base.BuiltinsAt X.mg P/\mainGlobals≠P
structure LamOk (X:Cx) (scope:Scope) (N':List Str) (ix:List Nat):Prop where
 kind:scope.kind=.function
 co:scope.isCoroutine=false
 gen:scope.isGenerator=false
 cell:∀ y∈scope.names,y.2 ≠ .cell
 fr:∀ y∈scope.names,y.2=.free->X.env.kindOf y.1=some .cell
 tl:N'=ix.map fun (i:Nat)=>X.N.getD i Str.empty
 lt:∀ i∈ix,i<X.N.length
 fre:∀ y∈N',scope.names.lookup y=some .free/\(y,NameKind.free)∈scope.names
theorem Bv {N':List Str} (hk:scope.kind=.function:=by rfl) (hc:scope.isCoroutine=false:=by rfl) (hg:scope.isGenerator=false:=by rfl)
 (h1:(∀ y∈scope.names,y.2 ≠ .cell)/\(∀ y∈scope.names,y.2=.free->y.1∈N')/\∀ y∈N',scope.names.lookup y=some .free/\(y,NameKind.free)∈scope.names:=by decide +kernel)
 (h2:N'.map X.env.kindOf=N'.map fun _=>some NameKind.cell:=by rfl) (h3:N'=ix.map (fun (i:Nat)=>X.N.getD i Str.empty):=by rfl) (h4:ix.all (fun i=>decide (i<X.N.length))=true:=by rfl):LamOk X scope N' ix:=by
 obtain ⟨a,b,c⟩:=h1
 exact ⟨hk,hc,hg,a,fun y hy h=>List.map_inj_left.1 h2 _ (b y hy h),h3,fun i hi=>of_decide_eq_true (List.all_eq_true.1 h4 i hi),c⟩
section
variable {X:Cx} {scope:Scope} {N':List Str} {ix:List Nat} {params:Arguments} {body:Expr} {lp p pos:Pos} {x:Str} {k j:Nat} {gb:Ev->R D} {g:R D->R D}
theorem BO (ok:LamOk X scope N' ix) (I:Inv X pins σ H s):ClOk N' scope (oG X.env scope.names []) (cu 0 ix σ) H s.heap:=by
 have cl:∀ y c,(oG X.env scope.names []).lookup y=some c->X.env.cells.lookup y=some c:=qg scope.names [] (fun y c h=>by simp at h)
 have hasf:∀ y,(y,NameKind.free)∈scope.names->∃ c,(oG X.env scope.names []).lookup y=some c:=fun y hy=>kY scope.names [] y (.inr ⟨hy,I.ok.has y (.inl (ok.fr _ hy rfl))⟩)
 refine ⟨ok.kind,ok.cell,fun y z c h1 h2=>I.ok.inj y z c (cl y c h1) (cl z c h2),fun y hy=>hasf y (PySem.mem_of_lookup hy),fun y c h=>⟨I.freeC y c (cl y c h),I.cell y c (cl y c h)⟩,fun i y v h1 h2=>?_,?_⟩
 ·unfold cu at h2
  rw [List.replicate_zero,List.nil_append,List.getElem?_map] at h2
  cases e:ix[i]? with
  | none=>rw [e] at h2;cases h2
  | some i0=>
   rw [e] at h2
   have h2':σ[i0]?=some (some v):=by
    cases q:σ[i0]? with
    | none=>rw [Option.map_some,q] at h2;cases h2
    | some z=>rw [Option.map_some,q] at h2;have:=Option.some.inj h2;rw [<- this];rfl
   have hy:X.N[i0]?=some y:=by
    have ht2:=h1
    rw [ok.tl,List.getElem?_map,e] at ht2
    have hl:=ok.lt i0 (List.mem_of_getElem? e)
    have q:=Option.some.inj ht2
    rw [List.getElem?_eq_getElem hl,<- q]
    show some X.N[i0]=some (X.N.getD i0 Str.empty)
    rw [List.getD_eq_getElem?_getD,List.getElem?_eq_getElem hl]
    rfl
   obtain ⟨fr1,fr2⟩:=ok.fre y (List.mem_of_getElem? h1)
   have kc:=ok.fr _ fr2 rfl
   obtain ⟨m0,hn0,hl⟩:=I.loc
   obtain ⟨u,ru,lk⟩:=hl i0 y v hy h2' (.inr (.inl kc))
   rcases lk with ⟨z,_⟩|⟨_,c,hc,hcell⟩
   ·rw [kc] at z;cases z
   ·obtain ⟨c',hc'⟩:=hasf y fr2
    have:=cl y c' hc'
    rw [hc] at this
    cases this
    exact ⟨u,c,ru,fr1,hc',hcell⟩
 ·unfold cu
  rw [ok.tl];simp
end
structure LamDef (K:PySem.W.Frag) (mg:Str->Option Value) (fd:FuncData) (Pt:Addr):Prop where
 ex:∃ c,fd.code=.ref c/\∀ h,K.In h->PySem.W.CodeHd h c Pt
 ne:mainGlobals≠Pt
structure LamB (K:PySem.W.Frag) (mg:Str->Option Value) (base:Heap) (qual:Str) (fd:FuncData) (Pt:Addr):Prop where
 ld:LamDef K mg fd Pt
 tb:xk base Pt (qual++".<locals>."++"<lambda>")
 bm:base.BuiltinsAt mg Pt
end L2
namespace L2
open PySem PySem.Spec PyProof.Rows
def hid (H:Hp) (ow:jF):Hp:=fun a=>if (ow a).isSome=true then none else H a
theorem A4 (h:hid H ow a=some o):H a=some o/\ow a=none:=by
 unfold hid at h
 split at h
 ·cases h
 ·rename_i q;exact ⟨h,by cases e:ow a with|none=>rfl|some t=>rw [e] at q;exact absurd rfl q⟩
theorem kU {t:Nat×Nat} (h:ow a=some t):hid H ow a=none:=by
 unfold hid;rw [h];exact if_pos rfl
theorem gy (h:ow a=none):hid H ow a=H a:=by
 unfold hid;rw [h];exact if_neg (by simp)
theorem Dw (H:Hp) (ow:jF):Same (hid H ow) H:=fun a o e=>(A4 e).1
def retag (i j:Nat) (ow:jF):jF:=fun a=>match ow a with
 | some (i',t)=>if i'=i then some (j,t) else none
 | none=>none
theorem gM {t:Nat} (h:ow a=some (i,t)):retag i j ow a=some (j,t):=by
 unfold retag;rw [h];exact if_pos rfl
theorem Ae {t:Nat×Nat} (h:retag i j ow a=some t):ow a=some (i,t.2)/\t.1=j:=by
 unfold retag at h
 split at h
 ·rename_i i' t' e
  split at h
  ·rename_i z;subst z;cases h;exact ⟨e,rfl⟩
  ·cases h
 ·cases h
section
variable {K:PySem.W.Frag} {K0 G H:Hp} {ow:jF} {i j:Nat} {m:Bool} {C p:Addr} {fs:List (Nat×Fd)}
theorem FdAt.retag:∀ {fd:Fd} {v:V},FdAt K K0 G H ow i m k fd v->FdAt K K0 G H (L2.retag i j ow) j m k fd v
 | .val d,v,r=>r
 | .own ds,v,⟨l,ws,e,h1,h2,h3,h4,h5⟩=>⟨l,ws,e,h1,h2,h3,h4,gM h5⟩
theorem FdsAt.retag:∀ {fs:List (Nat×Fd)} {vs:List (Str×V)},FdsAt K K0 G H ow i m fs vs->FdsAt K K0 G H (L2.retag i j ow) j m fs vs
 | _,_,.nil=>.nil
 | _,_,.cons h nk r t=>.cons h nk (FdAt.retag r) (FdsAt.retag t)
theorem ObjAt.retag (h:ObjAt K K0 G H ow i m C p fs) (j:Nat):ObjAt K K0 G H (L2.retag i j ow) j m C p fs:=by
 obtain ⟨dx,vs,h1,h2,h3,h4,h5,h6,h7,h8⟩:=h
 exact ⟨dx,vs,h1,h2,h3,h4,h5,gM h6,gM h7,h8.retag⟩
theorem FdAt.hid {m':Bool}:∀ {fd:Fd} {v:V},FdAt K K0 G H ow i m k fd v->FdAt K (L2.hid H ow) G H ow i m' k fd v
 | .val d,v,r=>r
 | .own ds,v,⟨l,ws,e,h1,h2,h3,h4,h5⟩=>⟨l,ws,e,h1,h2,fun _=>kU h5,h4,h5⟩
theorem FdsAt.hid {m':Bool}:∀ {fs:List (Nat×Fd)} {vs:List (Str×V)},FdsAt K K0 G H ow i m fs vs->FdsAt K (L2.hid H ow) G H ow i m' fs vs
 | _,_,.nil=>.nil
 | _,_,.cons h nk r t=>.cons h nk (FdAt.hid r) (FdsAt.hid t)
theorem ObjAt.hid (h:ObjAt K K0 G H ow i m C p fs) (m':Bool):ObjAt K (L2.hid H ow) G H ow i m' C p fs:=by
 obtain ⟨dx,vs,h1,h2,h3,h4,h5,h6,h7,h8⟩:=h
 exact ⟨dx,vs,h1,h2,h3,h4,fun _=>⟨kU h6,kU h7⟩,h6,h7,h8.hid⟩
theorem FdAt.ro {K7:Hp}:∀ {fd:Fd} {v:V},FdAt K K0 G H ow i m k fd v->FdAt K K7 G H ow i false k fd v
 | .val d,v,r=>r
 | .own ds,v,⟨l,ws,e,h1,h2,h3,h4,h5⟩=>⟨l,ws,e,h1,h2,fun z=>absurd z (by decide),h4,h5⟩
theorem FdsAt.ro {K7:Hp}:∀ {fs:List (Nat×Fd)} {vs:List (Str×V)},FdsAt K K0 G H ow i m fs vs->FdsAt K K7 G H ow i false fs vs
 | _,_,.nil=>.nil
 | _,_,.cons h nk r t=>.cons h nk (FdAt.ro r) (FdsAt.ro t)
theorem ObjAt.ro (h:ObjAt K K0 G H ow i m C p fs) (K7:Hp):ObjAt K K7 G H ow i false C p fs:=by
 obtain ⟨dx,vs,h1,h2,h3,h4,h5,h6,h7,h8⟩:=h
 exact ⟨dx,vs,h1,h2,h3,h4,fun z=>absurd z (by decide),h6,h7,h8.ro⟩
end
def ci (m:Bool) (C p:Addr) (fs:List (Nat×Fd)) (n:Nat) (ds:List D):Ev:=some (.obj m C p fs)::(ds.map (fun d=>some (.val d))++List.replicate (n - (ds.length+1)) none)
theorem gI {K:PySem.W.Frag} {K0:Hp} {m:Bool} {p:Addr} {fs:List (Nat×Fd)} {N:List Str} {us:List V} (sub0:Same G K0) (up:Up G K0 G H) (r:Reps K G us ds) (ob:ObjAt K K0 G H ow 0 m C p fs) :
  StR K G K0 G H (eD N (.ref p::us)) (ci m C p fs N.length ds):=by
 have hl:=r.length
 have get:∀ (i:Nat) x,(ci m C p fs N.length ds)[i]?=some (some x)->(i=0/\x=.obj m C p fs)\/∃ k d,i=k+1/\ds[k]?=some d/\x=.val d:=fun i x e=>by
  cases i with
  | zero=>left;cases e;exact ⟨rfl,rfl⟩
  | succ k=>
   right
   unfold ci at e
   rw [List.getElem?_cons_succ] at e
   by_cases hi:k<ds.length
   ·rw [List.getElem?_append_left (by simpa using hi),List.getElem?_map] at e
    cases q:ds[k]? with
    | none=>rw [q] at e;cases e
    | some d=>rw [q] at e;cases e;exact ⟨k,d,rfl,q,rfl⟩
   ·rw [List.getElem?_append_right (by simpa using hi),List.getElem?_replicate] at e
    split at e <;> cases e
 have obs:ObSt K K0 G H (eD N (.ref p::us)) (ci m C p fs N.length ds):=by
  refine ⟨ow,fun i es l e=>?_,fun i m' C' p' fs' e=>?_⟩
  ·rcases get i _ e with ⟨_,z⟩|⟨k,d,_,_,z⟩ <;> cases z
  ·rcases get i _ e with ⟨rfl,z⟩|⟨k,d,_,_,z⟩
   ·cases z;exact ⟨rfl,ob⟩
   ·cases z
 refine ⟨⟨up.sub,?_,fun i d e=>?_,obs.rd⟩,sub0,up,fun i es e=>?_,fun i j es fs l e=>?_,obs⟩
 ·simp [eD,ci,hl]
 ·rcases get i _ e with ⟨_,z⟩|⟨k,d',rfl,e',z⟩
  ·cases z
  ·cases z
   obtain ⟨v,ev,rv⟩:=r.get e'
   refine ⟨v,?_,rv⟩
   unfold eD
   rw [List.map_cons,List.cons_append,List.getElem?_cons_succ,List.getElem?_append_left (by have:=(List.getElem?_eq_some_iff.mp ev).1;simpa using this),List.getElem?_map,ev]
   rfl
 ·rcases get i _ e with ⟨_,z⟩|⟨k,d,_,_,z⟩ <;> cases z
 ·rcases get i _ e with ⟨_,z⟩|⟨k,d,_,_,z⟩ <;> cases z
inductive RM where
 | ok (d:D) (fs:List (Nat×Fd))|rd (d:D)|ex (C:Addr)|no
abbrev MF:=List (Nat×Fd)->List D->RM
noncomputable def ce (C:Addr) (g:Ev->O) (n:Nat) (F:MF):Prop:=∀ p fs ds,match F fs ds with
 | .ok d fs'=>∃ Z',Z'[0]?=some (some (.obj true C p fs'))/\(g (ci true C p fs n ds)=.re d Z'\/(g (ci true C p fs n ds)=.nx Z'/\d=.non))
 | .rd d=>g (ci false C p fs n ds)=.rt d
 | .ex E=>∃ Z',g (ci false C p fs n ds)=.ex E Z'
 | .no=>True
noncomputable def spM (K:PySem.W.Frag) (C:Addr) (F:MF):Sp:=fun vs H Q E=>∃ G p us ds fs ow,vs=.ref p::us/\Reps K G us ds/\Same G H/\(∀ a t,ow a=some t->G a=none)/\ObjAt K (fun _=>none) G H ow 0 true C p fs/\match F fs ds with
 | .ok d fs'=>∀ v G' H' ow',Up G (hid H ow) G' H'->ObjAt K (hid H ow) G' H' ow' 0 true C p fs'->Rep K G' v d->Q v H'
 | .rd d=>∀ v G' H',Up G H G' H'->Rep K G' v d->Q v H'
 | .ex C'=>∀ G' H',Up G H G' H'->E (.ref C') none H'
 | .no=>False
noncomputable abbrev FnM (P:Program) (w:World) (K:PySem.W.Frag) (mg:Str->Option Value) (base:Heap) (k:Nat) (f:Addr) (fd:FuncData) (ps:List Str) (C:Addr) (F:MF):Prop:=FnOk P w K mg base (CXo P w) k f fd ps (fun vs H Q E=>vs.length=ps.length/\spM K C F vs H Q E)
theorem zB (sub:Same G H) (hg:∀ a t,ow a=some t->G a=none):Same G (hid H ow)/\Up G (hid H ow) G H:=by
 have s:Same G (hid H ow):=fun a o e=>by
  cases q:ow a with
  | none=>rw [gy q];exact sub a o e
  | some t=>rw [hg a t q] at e;cases e
 exact ⟨s,sub,.refl _,Dw H ow,fun _ _ e=>.inl e⟩
def nF (i:Nat) (m:Bool) (K0 G H:Hp) (ow:jF):jF:=fun a=>open Classical in if (∃ o,H a=some o)/\G a=none/\(m=true->K0 a=none) then retag i 0 ow a else none
section
variable {K:PySem.W.Frag} {K0 G H:Hp} {ow:jF} {i:Nat} {m:Bool} {C p:Addr} {fs:List (Nat×Fd)}
theorem uy {t:Nat} (h:ow a=some (i,t)) (e:H a=some o) (g:G a=none) (z:m=true->K0 a=none):nF i m K0 G H ow a=some (0,t):=by
 unfold nF;rw [if_pos ⟨⟨o,e⟩,g,z⟩];exact gM h
theorem dZ {t:Nat×Nat} (h:nF i m K0 G H ow a=some t):ow a=some (i,t.2)/\(∃ o,H a=some o)/\G a=none/\(m=true->K0 a=none):=by
 unfold nF at h
 split at h
 ·rename_i q;exact ⟨(Ae h).1,q⟩
 ·cases h
theorem FdAt.cut:∀ {fd:Fd} {v:V},FdAt K K0 G H ow i m k fd v->FdAt K (fun _=>none) G H (nF i m K0 G H ow) 0 true k fd v
 | .val d,v,r=>r
 | .own ds,v,⟨l,ws,e,h1,h2,h3,h4,h5⟩=>⟨l,ws,e,h1,h2,fun _=>rfl,h4,uy h5 h1 h2 h3⟩
theorem FdsAt.cut:∀ {fs:List (Nat×Fd)} {vs:List (Str×V)},FdsAt K K0 G H ow i m fs vs->FdsAt K (fun _=>none) G H (nF i m K0 G H ow) 0 true fs vs
 | _,_,.nil=>.nil
 | _,_,.cons h nk r t=>.cons h nk (FdAt.cut r) (FdsAt.cut t)
theorem ObjAt.cut (h:ObjAt K K0 G H ow i m C p fs):ObjAt K (fun _=>none) G H (nF i m K0 G H ow) 0 true C p fs:=by
 obtain ⟨dx,vs,h1,h2,h3,h4,h5,h6,h7,h8⟩:=h
 exact ⟨dx,vs,h1,h2,h3,h4,fun _=>⟨rfl,rfl⟩,uy h6 h1 h3 fun z=>(h5 z).1,uy h7 h2 h4 fun z=>(h5 z).2,h8.cut⟩
end
section
variable {K:PySem.W.Frag} {K0 K7 G H:Hp} {ow ow2:jF} {i:Nat} {C p:Addr}
theorem FdAt.newtag (h:∀ a t,ow a=some (0,t)->K0 a=none->ow2 a=some (i,t)) (z:∀ a,K0 a=none->K7 a=none):∀ {fd:Fd} {v:V},FdAt K K0 G H ow 0 true k fd v->FdAt K K7 G H ow2 i true k fd v
 | .val d,v,r=>r
 | .own ds,v,⟨l,ws,e,h1,h2,h3,h4,h5⟩=>⟨l,ws,e,h1,h2,fun _=>z l (h3 rfl),h4,h l _ h5 (h3 rfl)⟩
theorem FdsAt.newtag (h:∀ a t,ow a=some (0,t)->K0 a=none->ow2 a=some (i,t)) (z:∀ a,K0 a=none->K7 a=none):∀ {fs:List (Nat×Fd)} {vs:List (Str×V)},FdsAt K K0 G H ow 0 true fs vs->FdsAt K K7 G H ow2 i true fs vs
 | _,_,.nil=>.nil
 | _,_,.cons k nk r t=>.cons k nk (FdAt.newtag h z r) (FdsAt.newtag h z t)
theorem ObjAt.newtag {fs:List (Nat×Fd)} (h:∀ a t,ow a=some (0,t)->K0 a=none->ow2 a=some (i,t)) (z:∀ a,K0 a=none->K7 a=none) (o:ObjAt K K0 G H ow 0 true C p fs):ObjAt K K7 G H ow2 i true C p fs:=by
 obtain ⟨dx,vs,h1,h2,h3,h4,h5,h6,h7,h8⟩:=o
 exact ⟨dx,vs,h1,h2,h3,h4,fun _=>⟨z p (h5 rfl).1,z dx (h5 rfl).2⟩,h p _ h6 (h5 rfl).1,h dx _ h7 (h5 rfl).2,h8.newtag h z⟩
end
theorem StR.meth {K:PySem.W.Frag} {K0 G':Hp} {p:Addr} {fs:List (Nat×Fd)} {ow':jF} (s:StR K K1 K0 G H σ Z) (e:Z[i]?=some (some (.obj true C p fs))) (o1:∀ (j:Nat) ds l,Z[j]?=some (some (.own ds))->σ[j]?=some (some (.ref l))->ow l=some (j,0))
 (o2:∀ (j:Nat) m C p fs,Z[j]?=some (some (.obj m C p fs))->σ[j]?=some (some (.ref p))/\ObjAt K K0 G H ow j m C p fs)
 (u:Up G (hid H (nF i true K0 G H ow)) G' H') (ob:ObjAt K (hid H (nF i true K0 G H ow)) G' H' ow' 0 true C p fs'):StR K K1 K0 G' H' σ (Z.set i (some (.obj true C p fs'))):=by
 have hl:i<Z.length:=(List.getElem?_eq_some_iff.mp e).1
 have get:∀ (j:Nat) x,(Z.set i (some (.obj true C p fs')))[j]?=some (some x)->(j=i/\x=.obj true C p fs')\/(j≠i/\Z[j]?=some (some x)):=fun j x h=>by
  by_cases z:i=j
  ·subst z
   rw [List.getElem?_set_self hl] at h
   exact .inl ⟨rfl,by injection (Option.some.inj h) with q;exact q.symm⟩
  ·rw [List.getElem?_set_ne z] at h
   exact .inr ⟨fun q=>z q.symm,h⟩
 have keep:∀ a o,H a=some o->nF i true K0 G H ow a=none->H' a=some o:=fun a o q n=>u.hh a o (by rw [gy n];exact q)
 have out0:∀ a,K0 a≠none->nF i true K0 G H ow a=none:=fun a q=>by
  cases z:nF i true K0 G H ow a with
  | none=>rfl
  | some t=>exact absurd ((dZ z).2.2.2 rfl) q
 have outT:∀ a j t,j≠i->ow a=some (j,t)->nF i true K0 G H ow a=none:=fun a j t nj q=>by
  cases z:nF i true K0 G H ow a with
  | none=>rfl
  | some t'=>have:=(dZ z).1;rw [q] at this;cases this;exact absurd rfl nj
 have gn:∀ a o,H a=some o->G a=none->nF i true K0 G H ow a=none->G' a=none:=fun a o q g n=>by
  cases z:G' a with
  | none=>rfl
  | some o'=>
   rcases u.fr a o' z with z|z
   ·rw [g] at z;cases z
   ·rw [gy n,q] at z;cases z
 have up:Up K1 K0 G' H':=by
  refine ⟨u.sub,s.up.gg.trans u.gg,fun a o q=>keep a o (s.up.hh a o q) (out0 a (by rw [q];simp)),fun a o q=>?_⟩
  rcases u.fr a o q with z|z
  ·exact s.up.fr a o z
  ·by_cases n:nF i true K0 G H ow a=none
   ·rw [gy n] at z;exact .inr (s.up.hh.free z)
   ·cases y:nF i true K0 G H ow a with
    | none=>exact absurd y n
    | some t=>exact .inr ((dZ y).2.2.2 rfl)
 have ob':ObSt K K0 G' H' σ (Z.set i (some (.obj true C p fs'))):=by
  refine ⟨fun a=>open Classical in if hid H (nF i true K0 G H ow) a=none then retag 0 i ow' a else ow a,fun j ds l h1 h2=>?_,fun j m' C' p' fs'' h1=>?_⟩
  ·rcases get j _ h1 with ⟨_,z⟩|⟨nj,f1⟩
   ·cases z
   ·have ol:=o1 j ds l f1 h2
    obtain ⟨l2,vs,q1,q2,_⟩:=s.own j ds f1
    rw [h2] at q1;cases q1
    have n:=outT l j 0 nj ol
    refine (if_neg ?_).trans ol
    rw [gy n,q2];simp
  ·rcases get j _ h1 with ⟨rfl,z⟩|⟨nj,f1⟩
   ·cases z
    refine ⟨(o2 j true C p fs e).1,?_⟩
    refine ob.newtag (fun a t q n=>(if_pos n).trans (gM q)) fun a n=>?_
    by_cases y:nF j true K0 G H ow a=none
    ·rw [gy y] at n;exact s.up.hh.free n
    ·cases y':nF j true K0 G H ow a with
     | none=>exact absurd y' y
     | some t=>exact (dZ y').2.2.2 rfl
   ·refine ⟨(o2 j m' C' p' fs'' f1).1,(o2 j m' C' p' fs'' f1).2.keep ⟨fun a t o q1 q=>keep a o q (outT a j t nj q1),u.gg,fun a t o q1 q n=>gn a o q n (outT a j t nj q1),fun a t o q1 q=>?_,fun a o _ _ n=>n⟩⟩
    refine (if_neg ?_).trans q1
    rw [gy (outT a j t nj q1),q];simp
 refine ⟨⟨u.sub,by simp [s.e.len],fun j d h=>?_,ob'.rd⟩,s.sub0,up,fun j ds h=>?_,fun j k ds es l q1 q2 q3 q4=>?_,ob'⟩
 ·rcases get j _ h with ⟨_,z⟩|⟨_,f1⟩
  ·cases z
  ·obtain ⟨v,p1,p2⟩:=s.e.val j d f1
   exact ⟨v,p1,p2.mono u.gg⟩
 ·rcases get j _ h with ⟨_,z⟩|⟨nj,f1⟩
  ·cases z
  ·obtain ⟨l,vs,p1,p2,p3,p4,p5⟩:=s.own j ds f1
   have n:=outT l j 0 nj (o1 j ds l f1 p1)
   exact ⟨l,vs,p1,keep l _ p2 n,gn l _ p2 p3 n,p4,p5.mono u.gg⟩
 ·rcases get j _ q1 with ⟨_,z⟩|⟨nj,f1⟩
  ·cases z
  ·rcases get k _ q2 with ⟨_,z⟩|⟨nk,f2⟩
   ·cases z
   ·exact s.inj j k ds es l f1 f2 q3 q4
end L2
variable {F aW aZ aR aE:L2.MF}
namespace L2
open PySem PySem.Spec PyProof.Rows
theorem mF:∀ j,j<fnames.length->∀ k,k<fnames.length->cq j=cq k->j=k:=by decide +kernel
def iJ (k:Nat) (fd:Fd):List (Nat×Fd)->List (Nat×Fd)
 | []=>[(k,fd)]
 | (j,x)::r=>if j=k then (j,fd)::r else (j,x)::iJ k fd r
theorem lh {k j:Nat} {fd:Fd} (h:j≠k):∀ {fs:List (Nat×Fd)},fs.lookup j=none->(iJ k fd fs).lookup j=none
 | [],_=>by
  have z:(j==k)=false:=by simp [h]
  simp only [iJ,List.lookup_cons,z,List.lookup_nil]
 | (a,x)::r,e=>by
  have ha:(j==a)=false:=by
   cases q:j==a with
   | false=>rfl
   | true=>simp only [List.lookup_cons,q] at e;cases e
  have er:r.lookup j=none:=by simpa only [List.lookup_cons,ha] using e
  unfold iJ
  by_cases z:a=k
  ·rw [if_pos z];simpa only [List.lookup_cons,ha] using er
  ·rw [if_neg z];simp only [List.lookup_cons,ha];exact lh h er
section
variable {K:PySem.W.Frag} {K0 G H:Hp} {ow:jF} {i:Nat} {m:Bool} {k:Nat}
theorem FdsAt.keys:∀ {fs:List (Nat×Fd)} {vs:List (Str×V)},FdsAt K K0 G H ow i m fs vs->∀ j fd,fs.lookup j=some fd->j<fnames.length
 | _,_,.nil,j,fd,e=>by simp at e
 | _,_,.cons (k:=a) h nk r t,j,fd,e=>by
  cases q:j==a with
  | true=>rw [beq_iff_eq.mp q];exact h
  | false=>simp only [List.lookup_cons,q] at e;exact FdsAt.keys t j fd e
theorem FdsAt.get:∀ {fs:List (Nat×Fd)} {vs:List (Str×V)} {fd:Fd},FdsAt K K0 G H ow i m fs vs->fs.lookup k=some fd->∃ v,vs.lookup (cq k)=some v/\FdAt K K0 G H ow i m k fd v
 | _,_,_,.nil,e=>by simp at e
 | _,_,fd,.cons (k:=a) h nk r t,e=>by
  cases q:k==a with
  | true=>
   have z:=beq_iff_eq.mp q
   subst z
   simp only [List.lookup_cons,q] at e
   cases e
   exact ⟨_,by simp [List.lookup_cons],r⟩
  | false=>
   simp only [List.lookup_cons,q] at e
   obtain ⟨v,e1,e2⟩:=FdsAt.get t e
   have hk:=t.keys k fd e
   have ne:(cq k==cq a)=false:=by
    cases z:cq k==cq a with
    | false=>rfl
    | true=>have:=mF k hk a h (eq_of_beq z);rw [this] at q;simp at q
   exact ⟨v,by simp only [List.lookup_cons,ne];exact e1,e2⟩
theorem FdsAt.put {fd:Fd} (hk:k<fnames.length) (r:FdAt K K0 G H ow i m k fd v):∀ {fs:List (Nat×Fd)} {vs:List (Str×V)},FdsAt K K0 G H ow i m fs vs->FdsAt K K0 G H ow i m (iJ k fd fs) (oO (cq k) v vs)
 | _,_,.nil=>.cons hk rfl r .nil
 | _,_,.cons (k:=a) h nk r' t=>by
  unfold iJ oO
  by_cases z:a=k
  ·subst z
   rw [if_pos rfl,if_pos rfl]
   exact .cons h nk r t
  ·rw [if_neg z,if_neg (fun q=>z (mF a h k hk q))]
   exact .cons h (lh (fun q=>z q) nk) r' (FdsAt.put hk r t)
theorem FdsAt.len:∀ {fs:List (Nat×Fd)} {vs:List (Str×V)},FdsAt K K0 G H ow i m fs vs->vs.length=fs.length
 | _,_,.nil=>rfl
 | _,_,.cons h nk r t=>by simp [FdsAt.len t]
theorem FdsAt.keepL {ow2:jF} (h:∀ l ws,H l=some (.lst ws)->H' l=some (.lst ws)/\ow2 l=ow l):∀ {fs:List (Nat×Fd)} {vs:List (Str×V)},FdsAt K K0 G H ow i m fs vs->FdsAt K K0 G H' ow2 i m fs vs
 | _,_,.nil=>.nil
 | _,_,.cons (fd:=fd) hk nk r t=>.cons hk nk (by
   cases fd with
   | val d=>exact r
   | own ds=>
    obtain ⟨l,ws,e,h1,h2,h3,h4,h5⟩:=r
    exact ⟨l,ws,e,(h l ws h1).1,h2,h3,h4,by rw [(h l ws h1).2];exact h5⟩) (FdsAt.keepL h t)
theorem FdsAt.mutL {l:Addr} {us:List V} {es:List D} (re:Reps K G us es) (ol:ow l=some (i,k+1)) (gl:G l=none) (hl:m=true->K0 l=none):∀ {fs:List (Nat×Fd)} {vs:List (Str×V)} {ds:List D},FdsAt K K0 G H ow i m fs vs->fs.lookup k=some (.own ds)->vs.lookup (cq k)=some (.ref l)->
  FdsAt K K0 G (upd H l (.lst us)) ow i m (iJ k (.own es) fs) vs
 | _,_,_,.nil,e,_=>by simp at e
 | _,_,ds,.cons (k:=a) (fd:=fd) (v:=v) (fs:=fs) (vs:=vs) h nk r t,e,e2=>by
  have stay:∀ {j:Nat} {fd:Fd} {v:V},j≠k->FdAt K K0 G H ow i m j fd v->FdAt K K0 G (upd H l (.lst us)) ow i m j fd v:=fun {j fd v} nj q=>by
   cases fd with
   | val d=>exact q
   | own ds=>
    obtain ⟨l',ws,e,h1,h2,h3,h4,h5⟩:=q
    refine ⟨l',ws,e,?_,h2,h3,h4,h5⟩
    rw [aL];exact h1
    intro z;rw [z,ol] at h5;cases h5;exact nj rfl
  have stays:∀ {fs:List (Nat×Fd)} {vs:List (Str×V)},fs.lookup k=none->FdsAt K K0 G H ow i m fs vs->FdsAt K K0 G (upd H l (.lst us)) ow i m fs vs:=by
   intro fs vs n q
   induction q with
   | nil=>exact .nil
   | @cons b fd' v' fs' vs' h' nk' r' t' ih=>
    have nb:(k==b)=false:=by
     cases z:k==b with
     | false=>rfl
     | true=>simp only [List.lookup_cons,z] at n;cases n
    have nt:fs'.lookup k=none:=by simpa only [List.lookup_cons,nb] using n
    exact .cons h' nk' (stay (fun z=>by rw [z] at nb;simp at nb) r') (ih nt)
  unfold iJ
  by_cases z:a=k
  ·subst z
   rw [if_pos rfl]
   have ev:v=.ref l:=by simpa [List.lookup_cons] using e2
   subst ev
   exact .cons h nk ⟨l,us,rfl,aX,gl,hl,re,ol⟩ (stays nk t)
  ·rw [if_neg z]
   have q1:(k==a)=false:=by simp;exact fun q=>z q.symm
   have e':fs.lookup k=some (.own ds):=by simpa only [List.lookup_cons,q1] using e
   have hk:=t.keys k _ e'
   have q2:(cq k==cq a)=false:=by
    cases y:cq k==cq a with
    | false=>rfl
    | true=>exact absurd (mF k hk a h (eq_of_beq y)) fun q=>z q.symm
   have e2':vs.lookup (cq k)=some (.ref l):=by simpa only [List.lookup_cons,q2] using e2
   exact .cons h (lh z nk) (stay z r) (FdsAt.mutL re ol gl hl t e' e2')
end
theorem StR.objTo {K:PySem.W.Frag} {K0:Hp} {p:Addr} {fs:List (Nat×Fd)} {ow2:jF} (s:StR K K1 K0 G H σ Z) (e:Z[i]?=some (some (.obj true C p fs))) (o1:∀ (j:Nat) ds l,Z[j]?=some (some (.own ds))->σ[j]?=some (some (.ref l))->ow l=some (j,0))
 (o2:∀ (j:Nat) m C p fs,Z[j]?=some (some (.obj m C p fs))->σ[j]?=some (some (.ref p))/\ObjAt K K0 G H ow j m C p fs)
 (hh:∀ a o,H a=some o->(∀ t,ow a≠some (i,t))->H' a=some o) (h0:Same K0 H') (sub:Same G H') (oo:∀ a j t o,j≠i->ow a=some (j,t)->H a=some o->ow2 a=some (j,t)) (ob:ObjAt K K0 G H' ow2 i true C p fs'):StR K K1 K0 G H' σ (Z.set i (some (.obj true C p fs'))):=by
 have hl:i<Z.length:=(List.getElem?_eq_some_iff.mp e).1
 have get:∀ (j:Nat) x,(Z.set i (some (.obj true C p fs')))[j]?=some (some x)->(j=i/\x=.obj true C p fs')\/(j≠i/\Z[j]?=some (some x)):=fun j x h=>by
  by_cases z:i=j
  ·subst z
   rw [List.getElem?_set_self hl] at h
   exact .inl ⟨rfl,by injection (Option.some.inj h) with q;exact q.symm⟩
  ·rw [List.getElem?_set_ne z] at h
   exact .inr ⟨fun q=>z q.symm,h⟩
 have ob':ObSt K K0 G H' σ (Z.set i (some (.obj true C p fs'))):=by
  refine ⟨ow2,fun j ds l h1 h2=>?_,fun j m' C' p' fs'' h1=>?_⟩
  ·rcases get j _ h1 with ⟨_,z⟩|⟨nj,f1⟩
   ·cases z
   ·obtain ⟨l2,vs,q1,q2,_⟩:=s.own j ds f1
    rw [h2] at q1;cases q1
    exact oo l j 0 _ nj (o1 j ds l f1 h2) q2
  ·rcases get j _ h1 with ⟨rfl,z⟩|⟨nj,f1⟩
   ·cases z;exact ⟨(o2 j true C p fs e).1,ob⟩
   ·exact ⟨(o2 j m' C' p' fs'' f1).1,(o2 j m' C' p' fs'' f1).2.keep ⟨fun a t o q1 q=>hh a o q (fun t' z=>by rw [q1] at z;cases z;exact nj rfl),.refl _,fun a t o _ _ n=>n,fun a t o q1 q=>oo a j t o nj q1 q,fun a o _ _ n=>n⟩⟩
 refine ⟨⟨sub,by simp [s.e.len],fun j d h=>?_,ob'.rd⟩,s.sub0,⟨sub,s.up.gg,h0,s.up.fr⟩,fun j ds h=>?_,fun j k ds es l q1 q2 q3 q4=>?_,ob'⟩
 ·rcases get j _ h with ⟨_,z⟩|⟨_,f1⟩
  ·cases z
  ·exact s.e.val j d f1
 ·rcases get j _ h with ⟨_,z⟩|⟨nj,f1⟩
  ·cases z
  ·obtain ⟨l,vs,p1,p2,p3,p4,p5⟩:=s.own j ds f1
   exact ⟨l,vs,p1,hh l _ p2 (fun t z=>by rw [o1 j ds l f1 p1] at z;cases z;exact nj rfl),p3,p4,p5⟩
 ·rcases get j _ q1 with ⟨_,z⟩|⟨nj,f1⟩
  ·cases z
  ·rcases get k _ q2 with ⟨_,z⟩|⟨nk,f2⟩
   ·cases z
   ·exact s.inj j k ds es l f1 f2 q3 q4
section
variable {K:PySem.W.Frag} {K1 K0 G H:Hp} {σ:St} {Z:Ev} {i k:Nat} {C p dx:Addr} {fs:List (Nat×Fd)} {vs:List (Str×V)}
theorem StR.fmut (s:StR K K1 K0 G H σ Z) (e:Z[i]?=some (some (.obj true C p fs))) {es:List D} {us:List V} (ek:fs.lookup k=some (.own ds)) (re:Reps K G us es) {l:Addr} (hp:H p=some (.ins C dx vs)) (el:vs.lookup (cq k)=some (.ref l)) :
  StR K K1 K0 G (upd H l (.lst us)) σ (Z.set i (some (.obj true C p (iJ k (.own es) fs)))):=by
 obtain ⟨ow,o1,o2⟩:=s.ob
 obtain ⟨_,dx',vs',h1,h2,h3,h4,h5,h6,h7,h8⟩:=o2 i true C p fs e
 rw [hp] at h1;cases h1
 obtain ⟨v,e1,l',ws,ev,g1,g2,g3,g4,g5⟩:=h8.get ek
 rw [el] at e1;cases e1;cases ev
 have np:∀ {a:Addr} {o:HO},H a=some o->(∀ xs,o ≠ .lst xs)->a≠l:=fun q n z=>by rw [z,g1] at q;cases q;exact n _ rfl
 refine s.objTo e o1 o2 (ow2:=ow) (fun a o q n=>?_) (fun a o q=>?_) (fun a o q=>?_) (fun a j t o _ q _=>q) ?_
 ·rw [aL (fun z=>n _ (z ▸ g5))];exact q
 ·rw [aL (fun z=>by rw [z,g3 rfl] at q;cases q)];exact s.up.hh a o q
 ·rw [aL (fun z=>by rw [z,g2] at q;cases q)];exact s.e.sub a o q
 ·refine ⟨dx,vs,?_,?_,h3,h4,h5,h6,h7,h8.mutL re g5 g2 g3 ek el⟩
  ·rw [aL (np hp fun _ z=>by cases z)];exact hp
  ·rw [aL (np h2 fun _ z=>by cases z)];exact h2
theorem StR.fputL (s:StR K K1 K0 G H σ Z) (e:Z[i]?=some (some (.obj true C p fs))) (hk:k<fnames.length) {l:Addr} {us:List V} (hl:H l=none) (r:Reps K G us ds) (hp:H p=some (.ins C dx vs)) :
  StR K K1 K0 G (upd (upd H l (.lst us)) p (.ins C dx (oO (cq k) (.ref l) vs))) σ (Z.set i (some (.obj true C p (iJ k (.own ds) fs)))):=by
 obtain ⟨ow,o1,o2⟩:=s.ob
 obtain ⟨_,dx',vs',h1,h2,h3,h4,h5,h6,h7,h8⟩:=o2 i true C p fs e
 rw [hp] at h1;cases h1
 have nl:∀ {a:Addr} {o:HO},H a=some o->a≠l:=fun q z=>by rw [z,hl] at q;cases q
 have gl:G l=none:=s.e.sub.free hl
 have h0l:K0 l=none:=s.up.hh.free hl
 refine s.objTo e o1 o2 (ow2:=fun a=>if a=l then some (i,k+1) else ow a) (fun a o q n=>?_) (fun a o q=>?_) (fun a o q=>?_) (fun a j t o _ q q2=>(if_neg (nl q2)).trans q) ?_
 ·rw [aL (fun z=>n _ (z ▸ h6)),aL (nl q)];exact q
 ·rw [aL (fun z=>by rw [z,(h5 rfl).1] at q;cases q),aL (nl (s.up.hh a o q))];exact s.up.hh a o q
 ·rw [aL (fun z=>by rw [z,h3] at q;cases q),aL (nl (s.e.sub a o q))];exact s.e.sub a o q
 ·refine ⟨dx,_,aX,?_,h3,h4,h5,(if_neg (nl hp)).trans h6,(if_neg (nl h2)).trans h7,?_⟩
  ·rw [aL (fun z=>by rw [z,hp] at h2;cases h2),aL (nl h2)];exact h2
  ·refine FdsAt.put (fd:=.own ds) hk ⟨l,us,rfl,?_,gl,fun _=>h0l,r,if_pos rfl⟩ (h8.keepL fun l' ws q=>⟨?_,if_neg (nl q)⟩)
   ·rw [aL (fun z=>nl hp z.symm),aX]
   ·rw [aL (fun z=>by rw [z,hp] at q;cases q),aL (nl q)];exact q
end
end L2
namespace L2
open PySem PySem.Spec PyProof.Rows
def iH (C:Addr) (Z:Ev) (i:Nat):R (List (Nat×Fd)):=match Z[i]? with
 | some (some (.obj _ C' _ fs))=>if C'=C then .ok fs else .no
 | _=>.no
def jZ (C:Addr) (Z:Ev) (i:Nat):R (Addr×List (Nat×Fd)):=match Z[i]? with
 | some (some (.obj true C' p fs))=>if C'=C then .ok (p,fs) else .no
 | _=>.no
def fldL (fs:List (Nat×Fd)) (k:Nat):R (List D):=match fs.lookup k with
 | some (.own ds)=>.ok ds
 | _=>.no
def uI (C:Addr) (i k:Nat) (gb:Ev->R D):Ev->R D:=fun Z=>iH C Z i>>=fun fs=>fldL fs k>>=fun ds=>gb Z>>=fun d=>ofO (ixD (.lst false ds) d)
def jN (C:Addr) (i k:Nat):Ev->R D:=fun Z=>iH C Z i>>=fun fs=>fldL fs k>>=fun ds=>.ok (.int ds.length)
noncomputable def yd (C:Addr) (i k:Nat) (ga:Ev->R D):Ev->O:=fun Z=>(jZ C Z i).out Z fun o=>(fldL o.2 k).out Z fun ds=>(ga Z).out Z fun d=>if ds.length<sizeLine then .nx (Z.set i (some (.obj true C o.1 (iJ k (.own (ds++[d])) o.2)))) else .no
noncomputable def ug (C:Addr) (i k j:Nat):Ev->O:=fun Z=>(jZ C Z i).out Z fun o=>(fldL o.2 k).out Z fun ds=>match ds.getLast? with
 | some d=>if i≠j then .nx ((Z.set i (some (.obj true C o.1 (iJ k (.own ds.dropLast) o.2)))).set j (some (.val d))) else .no
 | none=>.no
def jl (C:Addr) (i k:Nat) (gl:Ev->R (List D)):Ev->O:=fun Z=>(jZ C Z i).out Z fun o=>(gl Z).out Z fun ds=>if o.2.length<900 then .nx (Z.set i (some (.obj true C o.1 (iJ k (.own ds) o.2)))) else .no
def xn (ga:Ev->R D):Ev->O:=fun Z=>(ga Z).out Z fun d=>.re d Z
structure CF (K:PySem.W.Frag) (C:Addr) (ks:List Nat):Prop where
 cl:Cls K C
 na:∀ k∈ks,k<fnames.length/\NoAttr K C (cq k)
theorem lX {α:Type} {k:List (Nat×Fd)->R α} {P:α->Prop} {E:Addr->Prop} (h:(iH C Z i>>=k).post P E):∃ m p fs,Z[i]?=some (some (.obj m C p fs))/\(k fs).post P E:=by
 unfold iH at h
 split at h
 ·rename_i m C' p fs e
  by_cases z:C'=C
  ·subst z;rw [if_pos rfl] at h;exact ⟨m,p,fs,e,h⟩
  ·rw [if_neg z] at h;exact h.elim
 ·exact h.elim
theorem tV {fs:List (Nat×Fd)} {α:Type} {k:List D->R α} {P:α->Prop} {E:Addr->Prop} (h:(fldL fs n>>=k).post P E):∃ ds,fs.lookup n=some (.own ds)/\(k ds).post P E:=by
 unfold fldL at h
 split at h
 ·rename_i ds e;exact ⟨ds,e,h⟩
 ·exact h.elim
theorem iz {K0:Hp} {D:Ends} {k:Addr×List (Nat×Fd)->O} (h:ke X K1 K0 D ((jZ C Z i).out Z k)):∃ p fs,Z[i]?=some (some (.obj true C p fs))/\ke X K1 K0 D (k (p,fs)):=by
 unfold jZ at h
 split at h
 ·rename_i C' p fs e
  by_cases z:C'=C
  ·subst z;rw [if_pos rfl] at h;exact ⟨p,fs,e,h⟩
  ·rw [if_neg z] at h;exact h.elim
 ·exact h.elim
theorem uG {K0:Hp} {D:Ends} {fs:List (Nat×Fd)} {k:List L2.D->O} (h:ke X K1 K0 D ((fldL fs n).out Z k)):∃ ds,fs.lookup n=some (.own ds)/\ke X K1 K0 D (k ds):=by
 unfold fldL at h
 split at h
 ·rename_i ds e;exact ⟨ds,e,h⟩
 ·exact h.elim
section
variable {X:Cx} {e b:Expr} {es:List Expr} {ga gb:Ev->R D} {gl:Ev->R (List D)} {x f:Str} {i k:Nat} {C:Addr} {ks:List Nat} {p1 p2 p3 pos ap cp:Pos}
theorem StE.fldL {K:PySem.W.Frag} {m:Bool} {p:Addr} {fs:List (Nat×Fd)} (st:StE K G H σ Z) (e:Z[i]?=some (some (.obj m C p fs))) (ek:fs.lookup k=some (.own ds)) :
  ∃ dx vs l ws,σ[i]?=some (some (.ref p))/\H p=some (.ins C dx vs)/\vs.lookup (cq k)=some (.ref l)/\H l=some (.lst ws)/\Reps K G ws ds:=by
 obtain ⟨es,ow,dx,vs,h1,h2,h3,h4,h5,h6,h7,h8⟩:=st.obs i m C p fs e
 obtain ⟨v,e1,l,ws,rfl,g1,g2,g3,g4,g5⟩:=h8.get ek
 exact ⟨dx,vs,l,ws,es,h1,e1,g1,g4⟩
end
end L2
namespace L2
open PySem PySem.Spec PyProof.Rows
structure MCallee (P:Program) (w:World) (K:PySem.W.Frag) (mg:Str->Option Value) (base:Heap) (C:Addr) (mn:Str) (k n:Nat) (F:MF):Prop where
 ex:∃ f fd ps,FnM P w K mg base k f fd ps C F/\Meth K C mn f/\Binds K fd ps []/\ps.length=n+1
theorem MCallee.mono {w:World} {K:PySem.W.Frag} {mg:Str->Option Value} {base:Heap} {mn:Str} (c:MCallee P w K mg base C mn k n F) (k':Nat) (h:k<=k':=by decide):MCallee P w K mg base C mn k' n F:=by
 obtain ⟨f,fd,ps,M,hm,hb,e⟩:=c.ex
 exact ⟨f,fd,ps,{ M with run:=fun A outer s H args us vs Q E hr=>M.run A outer s H args us vs Q E (hr.mono h) },hm,hb,e⟩
theorem FdsAt.none {K:PySem.W.Frag} {K0:Hp} {m:Bool} {mn:Str} (hn:∀ k,k<fnames.length->(mn==cq k)=false):∀ {fs:List (Nat×Fd)} {vs:List (Str×V)},FdsAt K K0 G H ow i m fs vs->vs.lookup mn=Option.none
 | _,_,.nil=>rfl
 | _,_,.cons (k:=a) h nk r t=>by simp only [List.lookup_cons,hn a h];exact FdsAt.none hn t
section
variable {X:Cx} {pins:List (Addr×Obj)} {σ:St} {G H:Hp} {s:Shared} {k n:Nat} {f:Addr} {fd:FuncData} {ps:List Str} {C p:Addr} {F:MF} {us:List Value} {vs:List V} {ds:List D} {fs:List (Nat×Fd)} {ow:jF} {Q:VK}
theorem jz (M:FnM X.prog X.w X.K X.mg X.base k f fd ps C F) (hr:Room k X.A) (hb:Binds X.K fd ps []) (hl:ps.length=n+1) (I:Inv X pins σ H s) (r:Vals vs us) (rp:Reps X.K G vs ds) (hn:ds.length=n) (sub:Same G H) (og:∀ a t,ow a=some t->G a=none)
 (ob:ObjAt X.K (fun _=>none) G H ow 0 true C p fs) (h:match F fs ds with
 | .ok d fs'=>∀ v G' H' ow',Up G (hid H ow) G' H'->ObjAt X.K (hid H ow) G' H' ow' 0 true C p fs'->Rep X.K G' v d->Q v H'
 | .rd d=>∀ v G' H',Up G H G' H'->Rep X.K G' v d->Q v H'
 | .ex C'=>Exx X σ G H C'
 | .no=>False):wpAny (model X.prog X.w) X.A (call (.ref f) (.ref p::us)) (EP X pins σ Q) X.xe s:=by
 have hvl:(V.ref p::vs).length=ps.length:=by rw [hl,List.length_cons,rp.length,hn]
 have hul:(Value.ref p::us++[]).length=ps.length:=by rw [List.append_nil,List.length_cons,<- r.length,<- List.length_cons (a:=V.ref p)];exact hvl
 have hbb:=hb s (.ref p::us) I.kIn hul
 rw [List.append_nil] at hbb
 refine wpAny_call (codeAny_mono (M.run X.A X.stack s H ⟨.ref p::us,[]⟩ (.ref p::us) (.ref p::vs) Q (fun c _ H'=>∃ C G',c=.ref C/\Up G H G' H'/\Exx X σ G H C) hr I.env0 hbb (.cons rfl r) ⟨hvl,G,p,vs,ds,fs,ow,rfl,rp,sub,og,ob,?_⟩) fun r' s' hq=>?_)
 ·cases q:F fs ds with
  | ok d fs'=>rw [q] at h;exact h
  | rd d=>rw [q] at h;exact h
  | ex C'=>rw [q] at h;exact fun G' H' u=>⟨C',G',rfl,u,h⟩
  | no=>rw [q] at h;exact h.elim
 ·cases r' with
  | error e'=>
   obtain ⟨a,C,H',rfl,fl,C',G',ec,u,q⟩:=hq
   cases ec
   exact q _ _ ⟨G,H,.refl sub,pins,s,a,rfl,I,.inr (.inl ⟨G',H',fl,u⟩)⟩
  | ok fl=>
   cases fl with
   | ret u=>exact I.after hq
   | _=>exact False.elim hq
end
def RM.read:RM->R D
 | .rd d=>.ok d
 | .ex C=>.ex C
 | _=>.no
def hV (C:Addr) (i n:Nat) (F:MF) (gl:Ev->R (List D)):Ev->R D:=fun Z=>iH C Z i>>=fun fs=>gl Z>>=fun ds=>if ds.length=n then (F fs ds).read else .no
def cP (C:Addr) (i:Nat) (F:MF):Ev->R D:=fun Z=>iH C Z i>>=fun fs=>(F fs []).read
def RM.out (r:RM) (C p:Addr) (i:Nat) (Z:Ev):O:=match r with
 | .ok _ fs'=>.nx (Z.set i (some (.obj true C p fs')))
 | .rd _=>.nx Z
 | .ex E=>.ex E Z
 | .no=>.no
def zV (C:Addr) (i n:Nat) (F:MF) (gl:Ev->R (List D)):Ev->O:=fun Z=>(jZ C Z i).out Z fun o=>(gl Z).out Z fun ds=>if ds.length=n then (F o.2 ds).out C o.1 i Z else .no
def fW (C:Addr) (i:Nat) (F:MF):Ev->O:=fun Z=>(jZ C Z i).out Z fun o=>(F o.2 []).out C o.1 i Z
section
variable {X:Cx} {e:Expr} {es:List Expr} {gl:Ev->R (List D)} {x mn:Str} {i k n:Nat} {C:Addr} {ks:List Nat} {F:MF} {p1 ap pos ep:Pos}
end
end L2
namespace L2
open PySem PySem.Spec PyProof.Rows
structure MkC (P:Program) (w:World) (K:PySem.W.Frag) (mg:Str->Option Value) (base:Heap) (C:Addr) (cn:Str) (k n:Nat) (F:MF):Prop where
 ex:∃ f fd ps,FnM P w K mg base k f fd ps C F/\Mk K C f/\mg cn=some (.ref C)/\Binds K fd ps []/\ps.length=n+1
section
variable {X:Cx} {pins:List (Addr×Obj)} {σ:St} {G H:Hp} {s:Shared} {k n:Nat} {f:Addr} {fd:FuncData} {ps:List Str} {C:Addr} {F:MF} {us:List Value} {vs:List V} {ds:List D} {Q:VK}
theorem AK (M:Mk X.K C f) (Fi:FnM X.prog X.w X.K X.mg X.base k f fd ps C F) (hr:Room (k+1) X.A) (hb:Binds X.K fd ps []) (hl:ps.length=n+1) (I:Inv X pins σ H s) (r:Vals vs us) (rp:Reps X.K G vs ds) (hn:ds.length=n) (sub:Same G H)
 (h:match F [] ds with
 | .ok d fs'=>d=.non/\∀ x G' H' ow',Up G H G' H'->ObjAt X.K H G' H' ow' 0 true C x fs'->Q (.ref x) H'
 | .ex C'=>Exx X σ G H C'
 | _=>False):wpAny (model X.prog X.w) X.A (call (.ref C) us) (EP X pins σ Q) X.xe s:=by
 have I2:=Inv.made (C:=C) I
 generalize hx:s.heap.objs.size+1=x at I2
 generalize hd:s.heap.objs.size=dx at I2
 have fx:H x=none:=I.hok.fresh (by rw [<- hx];exact Nat.le_succ _)
 have fd':H dx=none:=I.hok.fresh (by rw [<- hd];exact Nat.le_refl _)
 have ne:dx≠x:=by rw [<- hx,<- hd];exact Nat.ne_of_lt (Nat.lt_succ_self _)
 have gx:G x=none:=sub.free fx
 have gd:G dx=none:=sub.free fd'
 have hh:Same H (upd (upd H dx (.own x)) x (.ins C dx [])):=fun a o e=>by rw [aL (aO e fx),aL (aO e fd')];exact e
 have sub2:Same G (upd (upd H dx (.own x)) x (.ins C dx [])):=sub.trans hh
 have up2:Up G H G (upd (upd H dx (.own x)) x (.ins C dx [])):=⟨sub2,.refl _,hh,fun _ _ e=>.inl e⟩
 let ow:jF:=fun a=>if a=x\/a=dx then some (0,0) else none
 have og:∀ a t,ow a=some t->G a=none:=fun a t q=>by
  by_cases z:a=x\/a=dx
  ·rcases z with z|z
   ·rw [z];exact gx
   ·rw [z];exact gd
  ·have:ow a=none:=if_neg z
   rw [this] at q;cases q
 have ob:ObjAt X.K (fun _=>none) G (upd (upd H dx (.own x)) x (.ins C dx [])) ow 0 true C x []:=
  ⟨dx,[],aX,by rw [aL ne,aX],gx,gd,fun _=>⟨rfl,rfl⟩,if_pos (.inl rfl),if_pos (.inr rfl),.nil⟩
 have eh:hid (upd (upd H dx (.own x)) x (.ins C dx [])) ow=H:=by
  funext a
  by_cases z:a=x\/a=dx
  ·rw [kU (t:=(0,0)) (if_pos z)]
   rcases z with z|z
   ·rw [z];exact fx.symm
   ·rw [z];exact fd'.symm
  ·rw [gy (if_neg z),aL (fun q=>z (.inl q)),aL (fun q=>z (.inr q))]
 have hvl:(V.ref x::vs).length=ps.length:=by rw [hl,List.length_cons,rp.length,hn]
 have hul:(Value.ref x::us++[]).length=ps.length:=by rw [List.append_nil,List.length_cons,<- r.length,<- List.length_cons (a:=V.ref x)];exact hvl
 refine wpAny_call (Ad (f:=f) I.kIn M.makes M.init (beq_iff_eq.mp M.fn) ?_)
 rw [hx,hd]
 have hbb:=hb _ (.ref x::us) I2.kIn hul
 rw [List.append_nil] at hbb
 refine codeAny_mono (Fi.run _ X.stack _ _ ⟨Value.ref x::us,[]⟩ (Value.ref x::us) (V.ref x::vs) (fun v H2=>v=.non/\Q (.ref x) H2) (fun c _ H'=>∃ C' G',c=.ref C'/\Up G (upd (upd H dx (.own x)) x (.ins C dx [])) G' H'/\Exx X σ G H C') (hr.make C us [])
  (I2.env0.make C us []) hbb (.cons rfl r) ⟨hvl,G,x,vs,ds,[],ow,rfl,rp,sub2,og,ob,?_⟩) fun r' s' hq=>?_
 ·cases q:F [] ds with
  | ok d fs'=>
   rw [q] at h
   intro v G' H' ow' u o rv
   rw [eh] at u o
   obtain ⟨rfl,h⟩:=h
   exact ⟨rv.non_inv,h x G' H' ow' u o⟩
  | rd d=>rw [q] at h;exact h.elim
  | ex C'=>rw [q] at h;exact fun G' H' u=>⟨C',G',rfl,u,h⟩
  | no=>rw [q] at h;exact h.elim
 ·cases r' with
  | error e'=>
   obtain ⟨a,C',H',rfl,fl,C'',G',ec,u,q⟩:=hq
   cases ec
   exact q _ _ ⟨G,_,up2,pins,_,a,rfl,I2,.inr (.inl ⟨G',H',fl,u⟩)⟩
  | ok fl=>
   cases fl with
   | ret u=>
    obtain ⟨v,H',I3,rv,ev,q3⟩:=I2.after hq
    subst ev
    exact ⟨rv,⟨V.ref x,H',I3,rfl,q3⟩⟩
   | _=>exact False.elim hq
end
def yf (F:MF) (n:Nat) (ds:List D):R (List (Nat×Fd)):=if ds.length=n then (match F [] ds with
 | .ok .non fs'=>.ok fs'
 | .ex C=>.ex C
 | _=>.no) else .no
def J1 (X:Cx) (C:Addr) (F:MF) (n:Nat) (gl:Ev->R (List D)):TE:=fun σ H Q=>∃ G Z,StE X.K G H σ Z/\(gl Z>>=yf F n).post (fun fs'=>∀ x G' H' ow',Up G H G' H'->ObjAt X.K H G' H' ow' 0 true C x fs'->Q (.ref x) H') (Exx X σ G H)
section
variable {X:Cx} {e:Expr} {es:List Expr} {gl:Ev->R (List D)} {cn:Str} {k n:Nat} {C:Addr} {F:MF} {p pos:Pos}
theorem vc (c:MkC X.prog X.w X.K X.mg X.base C cn k n F) (hr:Room (k+1) X.A) (ha:QFA X (e::es) gl) (hg:Gl X cn:=by rfl) (hdb:(cn==("__debug__":Str))=false:=by decide)
 (he:starEach (e::es) X.env=(false,eval e X.env)::starEach es X.env:=by rfl) (hpl:(backTo pos (starEach es X.env)).any (·.1)=false:=by rfl):PE X (.Call (.Name cn p) (e::es) [] pos) (J1 X C F n gl):=by
 intro pins s σ H Q I h
 obtain ⟨f,fd,ps,M,mk,hm,hb,hl⟩:=c.ex
 obtain ⟨G,Z,st,h⟩:=h
 refine wpAny_Call_Name_kw (fv I hg hm ?_ hdb)
 have t:tAF X gl σ H (fun vs H1=>∃ G1 ds,Up G H G1 H1/\Reps X.K G1 vs ds/\(yf F n ds).post (fun fs'=>∀ x G' H' ow',Up G H G' H'->ObjAt X.K H G' H' ow' 0 true C x fs'->Q (.ref x) H') (Exx X σ G H)):=by
  refine ⟨G,Z,st,?_⟩
  cases q:gl Z with
  | ok ds=>rw [q] at h;exact fun vs G1 H1 u r=>⟨G1,ds,u,r,h⟩
  | ex C=>rw [q] at h;exact h
  | no=>rw [q] at h;exact h
 refine PySem.W.callWith_K (h₀:=X.base) I.ok.mod.kin mk.kp (thn (ha pos pins s σ H _ I t) fun us s1 q=>⟨?_,?_⟩) he hpl
 ·obtain ⟨vs,H1,I1,r,_⟩:=q;exact I1.kIn
 obtain ⟨vs,H1,I1,r,G1,ds,u1,rp,h1⟩:=q
 unfold yf at h1
 by_cases hz:ds.length=n
 ·rw [if_pos hz] at h1
  refine AK mk M hr hb hl I1 r rp hz u1.sub ?_
  cases q:F [] ds with
  | ok d fs'=>
   rw [q] at h1
   cases d with
   | non=>
    refine ⟨rfl,fun x G' H' ow' u o=>h1 x G' H' ow' (u1.trans u) (o.keep ⟨fun _ _ _ _ e=>e,.refl _,fun _ _ _ _ _ n=>n,fun _ _ _ e _=>e,fun a o _ _ z=>u1.hh.free z⟩)⟩
   | _=>exact h1.elim
  | rd d=>rw [q] at h1;exact h1.elim
  | ex C'=>rw [q] at h1;exact Exx.up u1 h1
  | no=>rw [q] at h1;exact h1.elim
 ·rw [if_neg hz] at h1;exact h1.elim
end
theorem StR.setObj {K:PySem.W.Frag} {K0 G':Hp} {x:Addr} {fs:List (Nat×Fd)} {ow':jF} (s:StR K K1 K0 G H σ Z) (u:Up G H G' H') (ob:ObjAt K H G' H' ow' 0 true C x fs) (i:Nat):StR K K1 K0 G' H' (σ.set i (some (.ref x))) (Z.set i (some (.obj true C x fs))):=by
 have get:∀ (j:Nat) y,(Z.set i (some (.obj true C x fs)))[j]?=some (some y)->(j=i/\y=.obj true C x fs/\i<σ.length)\/(j≠i/\Z[j]?=some (some y)/\(σ.set i (some (.ref x)))[j]?=σ[j]?):=fun j y h=>by
  by_cases e:i=j
  ·subst e
   have hl:i<Z.length:=by
    have:=(List.getElem?_eq_some_iff.mp h).1
    simpa using this
   rw [List.getElem?_set_self hl] at h
   exact .inl ⟨rfl,by injection (Option.some.inj h) with q;exact q.symm,by rw [s.e.len];exact hl⟩
  ·rw [List.getElem?_set_ne e] at h
   exact .inr ⟨fun z=>e z.symm,h,List.getElem?_set_ne e⟩
 have s1:=s.ups u
 have ob':ObSt K K0 G' H' (σ.set i (some (.ref x))) (Z.set i (some (.obj true C x fs))):=by
  obtain ⟨ow,o1,o2⟩:=s.ob
  refine ⟨fun a=>open Classical in if H a=none then retag 0 i ow' a else ow a,fun j ds l h1 h2=>?_,fun j m' C' p' fs' h1=>?_⟩
  ·rcases get j _ h1 with ⟨_,z,_⟩|⟨nj,f1,f2⟩
   ·cases z
   ·rw [f2] at h2
    obtain ⟨l2,vs,q1,q2,_⟩:=s.own j ds f1
    rw [h2] at q1;cases q1
    exact (if_neg (by rw [q2];simp)).trans (o1 j ds l f1 h2)
  ·rcases get j _ h1 with ⟨rfl,z,hj⟩|⟨nj,f1,f2⟩
   ·cases z
    exact ⟨List.getElem?_set_self hj,ob.newtag (fun a t q n=>(if_pos n).trans (gM q)) fun a n=>s.up.hh.free n⟩
   ·rw [f2]
    have ku:ObKeep K0 K0 G H G' H' ow ow j:=.up u
    exact ⟨(o2 j m' C' p' fs' f1).1,(o2 j m' C' p' fs' f1).2.keep ⟨ku.hh,ku.gg,ku.gn,fun a t o q1 q2=>(if_neg (by rw [q2];simp)).trans q1,ku.h0⟩⟩
 refine ⟨⟨s1.e.sub,by simp [s1.e.len],fun j d h=>?_,ob'.rd⟩,s1.sub0,s1.up,fun j ds h=>?_,fun j k ds es l q1 q2 q3 q4=>?_,ob'⟩
 ·rcases get j _ h with ⟨_,z,_⟩|⟨_,f1,f2⟩
  ·cases z
  ·rw [f2];exact s1.e.val j d f1
 ·rcases get j _ h with ⟨_,z,_⟩|⟨nj,f1,f2⟩
  ·cases z
  ·rw [f2];exact s1.own j ds f1
 ·rcases get j _ q1 with ⟨_,z,_⟩|⟨nj,f1,f2⟩
  ·cases z
  ·rcases get k _ q2 with ⟨_,z,_⟩|⟨nk,f3,f4⟩
   ·cases z
   ·exact s1.inj j k ds es l f1 f3 (f2 ▸ q3) (f4 ▸ q4)
def Jb {α:Type} (X:Cx) (sts:List Stmt) (g:α->Ev->O):Prop:=∀ K1 K0,PSs X sts (fun D σ H=>∃ G Z,StR X.K K1 K0 G H σ Z/\∀ q,ke X K1 K0 D (g q Z))
section
variable {X:Cx} {st:Stmt} {cV:List Stmt} {g1:Ev->O} {gs:Ev->O} {α:Type} {g2:α->Ev->O} {e:Expr} {es:List Expr} {gl gl':Ev->R (List D)} {cn:Str} {k n:Nat} {C:Addr} {F:MF} {p pos:Pos}
def CN (g:Ev->O):Unit->Ev->O:=fun _=>g
def vU (g1:Ev->O) (g2:α->Ev->O):α->Ev->O:=fun q Z=>(g1 Z).seq (g2 q)
end
end L2
namespace L2
open PySem PySem.Spec PyProof.Rows
def rE (X:Cx) (K1 K0:Hp) (σ:St) (Q:VK) (o:O):Prop:=match o with
 | .re d Z=>∀ v G H,StR X.K K1 K0 G H σ Z->Rep X.K G v d->Q v H
 | .ex C Z=>∀ e s',FlyS X K1 K0 Z C e s'->X.xe e s'
 | _=>False
def Gz (X:Cx) (K1 K0:Hp) (σ:St) (Q:Bool->Hp->Prop) (o:O):Prop:=match o with
 | .re d Z=>∃ k,d=.bl k/\∀ G H,StR X.K K1 K0 G H σ Z->Q k H
 | .ex C Z=>∀ e s',FlyS X K1 K0 Z C e s'->X.xe e s'
 | _=>False
def tX (X:Cx) (K1 K0:Hp) (g:Ev->O):TE:=fun σ H Q=>∃ G Z,StR X.K K1 K0 G H σ Z/\rE X K1 K0 σ Q (g Z)
def tXB (X:Cx) (K1 K0:Hp) (g:Ev->O):TT:=fun σ H Q=>∃ G Z,StR X.K K1 K0 G H σ Z/\Gz X K1 K0 σ Q (g Z)
def QFX (X:Cx) (e:Expr) (g:Ev->O):Prop:=∀ K1 K0,PE X e (tX X K1 K0 g)
def QBX (X:Cx) (e:Expr) (g:Ev->O):Prop:=∀ K1 K0,PT X e (tXB X K1 K0 g)
def Jt (X:Cx) (e:Expr) (g:Ev->O):Prop:=∀ K1 K0,PW X e (tXB X K1 K0 g)
def O.thenX (o:O) (k:D->Ev->O):O:=match o with
 | .re d Z=>k d Z
 | .ex C Z=>.ex C Z
 | _=>.no
def Bx (g:Ev->R Bool):Ev->O:=fun Z=>(g Z).out Z fun k=>.re (.bl k) Z
def xE (f:D->D->Option D) (g:Ev->O) (gb:Ev->R D):Ev->O:=fun Z=>(g Z).thenX fun x Z'=>(gb Z').out Z' fun y=>(ofO (f x y)).out Z' fun d=>.re d Z'
def xIf (gt:Ev->R Bool) (g1 g2:Ev->O):Ev->O:=fun Z=>(gt Z).out Z fun k=>if k=true then g1 Z else g2 Z
def xOr (g1 g2:Ev->O):Ev->O:=fun Z=>(g1 Z).thenX fun d Z'=>match d with
 | .bl true=>.re (.bl true) Z'
 | .bl false=>g2 Z'
 | _=>.no
def CU (g:Ev->O):Ev->O:=fun Z=>(g Z).thenX fun d Z'=>.re d Z'
def zG (g:Ev->O) (g1 g2:Ev->O):Ev->O:=fun Z=>(g Z).thenX fun d Z'=>match d with
 | .bl true=>g1 Z'
 | .bl false=>g2 Z'
 | _=>.no
section
variable {X:Cx} {e a b c:Expr} {cV:List Expr} {g g1 g2:Ev->O} {ga gb:Ev->R D} {gt:Ev->R Bool} {pos:Pos} {s1 s2:List Stmt} {h1 h2:Ev->O}
theorem Exx.fly {K0:Hp} (sr:StR X.K K1 K0 G H σ Z) (h:∀ e s',FlyS X K1 K0 Z C e s'->X.xe e s'):Exx X σ G H C:=fun e s' ⟨G1,H1,u,f⟩=>h e s' (.of (sr.ups u) f)
theorem tX.read {α β:Type} {rep:Hp->β->α->Prop} {K0:Hp} {m:Ev->R α} {Q:β->Hp->Prop} (sr:StR X.K K1 K0 G H σ Z) (hk:∀ a,m Z=.ok a->∀ v G1 H1,Up G H G1 H1->StR X.K K1 K0 G1 H1 σ Z->rep G1 v a->Q v H1) (he:∀ C,m Z=.ex C->∀ e s',FlyS X K1 K0 Z C e s'->X.xe e s') (hn:m Z ≠ .no):tG X rep m σ H Q:=by
 refine ⟨G,Z,sr.e,?_⟩
 cases q:m Z with
 | ok a=>exact fun v G' H' u r=>hk a q v G' H' u (sr.ups u) r
 | ex C=>exact Exx.fly sr (he C q)
 | no=>exact absurd q hn
theorem zN {op:CmpOp} {r:R2} {f:D->D->Option D} (ho:OpR X (compareOp op) r) (hf:ROk X.K r f) (ha:QFX X a g) (hb:QF X b gb) (hm:behindInMarks op b=false):QBX X (.Compare a [op] [b] pos) (xE f g gb):=fun K1 K0 pins s σ H Q I ⟨G,Z,sr,q⟩=>by
 refine xO ho (ha K1 K0) hb hm pins s σ H Q I ⟨G,Z,sr,?_⟩
 unfold xE at q
 cases e:g Z with
 | re x Z'=>
  rw [e] at q
  intro v G1 H1 s1 r1
  have q:Gz X K1 K0 σ Q ((gb Z').out Z' fun y=>(ofO (f x y)).out Z' fun d=>.re d Z'):=q
  refine tX.read s1 (fun y e2 w G2 H2 u2 s2 r2=>?_) (fun C e2=>?_) fun e2=>?_
  ·rw [e2] at q
   cases e3:f x y with
   | none=>
    have q:Gz X K1 K0 σ Q ((ofO (f x y)).out Z' fun d=>.re d Z'):=q
    rw [e3] at q;exact q.elim
   | some d=>
    have q:Gz X K1 K0 σ Q ((ofO (f x y)).out Z' fun d=>.re d Z'):=q
    rw [e3] at q
    obtain ⟨k,rfl,q⟩:=q
    refine hf G2 H2 v w x y (.bl k) _ s2.e.sub (r1.mono u2.gg) r2 e3 fun z G3 H3 u3 r3=>?_
    obtain rfl:=r3.bl_inv
    exact ⟨k,rfl,q G3 H3 (s2.ups u3)⟩
  ·rw [e2] at q;exact q
  ·rw [e2] at q;exact q
 | ex C Z'=>rw [e] at q;exact q
 | _=>rw [e] at q;exact q.elim
end
def DW (C:Addr) (Z:Ev) (i:Nat):R (Bool×Addr×List (Nat×Fd)):=match Z[i]? with
 | some (some (.obj m C' p fs))=>if C'=C then .ok (m,p,fs) else .no
 | _=>.no
def RM.outX (r:RM) (m:Bool) (C p:Addr) (i:Nat) (Z:Ev):O:=match r with
 | .ok d fs'=>if m=true then .re d (Z.set i (some (.obj true C p fs'))) else .no
 | .rd d=>.re d Z
 | .ex E=>.ex E Z
 | .no=>.no
def dR (C:Addr) (i n:Nat) (F:MF) (gl:Ev->R (List D)):Ev->O:=fun Z=>(DW C Z i).out Z fun o=>(gl Z).out Z fun ds=>if ds.length=n then (F o.2.2 ds).outX o.1 C o.2.1 i Z else .no
theorem sy {K0:Hp} {Q:VK} {k:Bool×Addr×List (Nat×Fd)->O} (h:rE X K1 K0 σ Q ((DW C Z i).out Z k)):∃ m p fs,Z[i]?=some (some (.obj m C p fs))/\rE X K1 K0 σ Q (k (m,p,fs)):=by
 unfold DW at h
 split at h
 ·rename_i m C' p fs e
  by_cases z:C'=C
  ·subst z;rw [if_pos rfl] at h;exact ⟨m,p,fs,e,h⟩
  ·rw [if_neg z] at h;exact h.elim
 ·exact h.elim
section
variable {X:Cx} {e:Expr} {es:List Expr} {gl:Ev->R (List D)} {x y mn:Str} {i k n:Nat} {C:Addr} {ks:List Nat} {F:MF} {p1 ap pos ep:Pos}
theorem Bj {K0:Hp} {Q:VK} {Q':List V->Hp->Prop} {r:List D->O} (sr:StR X.K K1 K0 G H σ Z) (h:rE X K1 K0 σ Q ((gl Z).out Z fun ds=>if ds.length=n then r ds else .no))
 (hk:∀ vs G1 H1 ds,StR X.K K1 K0 G1 H1 σ Z->Reps X.K G1 vs ds->ds.length=n->rE X K1 K0 σ Q (r ds)->Q' vs H1):tAF X gl σ H Q':=by
 refine tX.read sr (fun ds e vs G1 H1 u s1 rr=>?_) (fun C e=>?_) fun e=>?_
 ·rw [e] at h
  have h:rE X K1 K0 σ Q (if ds.length=n then r ds else .no):=h
  by_cases hz:ds.length=n
  ·rw [if_pos hz] at h;exact hk vs G1 H1 ds s1 rr hz h
  ·rw [if_neg hz] at h;exact h.elim
 ·rw [e] at h;exact h
 ·rw [e] at h;exact h
theorem jY {K0:Hp} {p:Addr} {fs:List (Nat×Fd)} {Q:VK} {mm:Bool}
 (M:FnM X.prog X.w X.K X.mg X.base k f fd ps C F) (hr:Room k X.A) (hb:Binds X.K fd ps []) (hl:ps.length=n+1) (I:Inv X pins σ H s) (r:Vals vs us) (rp:Reps X.K G vs ds) (hz:ds.length=n) (sr:StR X.K K1 K0 G H σ Z) (e1:Z[i]?=some (some (.obj mm C p fs)))
 (h:rE X K1 K0 σ Q ((F fs ds).outX mm C p i Z)):wpAny (model X.prog X.w) X.A (call (.ref f) (.ref p::us)) (EP X pins σ Q) X.xe s:=by
 obtain ⟨ow1,o1,o2⟩:=sr.ob
 obtain ⟨_,ob1⟩:=o2 i mm C p fs e1
 refine jz M hr hb hl I r rp hz sr.e.sub (fun a t q=>(dZ q).2.2.1) ob1.cut ?_
 cases q:F fs ds with
 | ok d fs'=>
  rw [q] at h
  cases mm with
  | false=>exact h.elim
  | true=>exact fun v G' H' ow' u ob rv=>h v G' H' (sr.meth e1 o1 o2 u ob) rv
 | rd d=>rw [q] at h;exact fun v G' H' u rv=>h v G' H' (sr.ups u) rv
 | ex C'=>rw [q] at h;exact Exx.fly sr h
 | no=>rw [q] at h;exact h.elim
end
structure CalleeM (P:Program) (w:World) (K:PySem.W.Frag) (mg:Str->Option Value) (base:Heap) (C:Addr) (x:Str) (k n:Nat) (F:MF):Prop where
 ex:∃ f fd ps,FnM P w K mg base k f fd ps C F/\mg x=some (.ref f)/\PySem.W.keepIn K (.ref f)=true/\Binds K fd ps []/\ps.length=n+1
theorem CalleeM.mono {w:World} {K:PySem.W.Frag} {mg:Str->Option Value} {base:Heap} (c:CalleeM P w K mg base C x k n F) (k':Nat) (h:k<=k':=by decide):CalleeM P w K mg base C x k' n F:=by
 obtain ⟨f,fd,ps,M,hm,hk,hb,e⟩:=c.ex
 exact ⟨f,fd,ps,{ M with run:=fun A outer s H args us vs Q E hr=>M.run A outer s H args us vs Q E (hr.mono h) },hm,hk,hb,e⟩
section
variable {X:Cx} {es:List Expr} {gl:Ev->R (List D)} {x y:Str} {i k n:Nat} {C:Addr} {F:MF} {p1 py pos:Pos}
end
section
variable {X:Cx} {es:List Expr} {gl:Ev->R (List D)} {x y:Str} {i k n:Nat} {C:Addr} {F:MF} {p1 py pos:Pos}
end
noncomputable def BA (P:Program) (w:World) (K:PySem.W.Frag) (mg:Str->Option Value) (base:Heap) (k:Nat) (s1:Shared) (G1 H1:Hp) (f:Addr) (Q:VK):Prop:=
 ∀ (Y:Cx) (pins:List (Addr×Obj)) (σY:St) (G2 H2:Hp) (s2:Shared) (fs:List Addr),Y.prog=P->Y.w=w->Y.K=K->Y.mg=mg->Y.base=base->Inv Y pins σY H2 s2->Room k Y.A->Un fs [] H1 H2 s1.heap s2.heap->Up G1 H1 G2 H2->
  (∃ o fd,s2.heap.get? f=some o/\o.data=.func fd)/\wpAny (model Y.prog Y.w) Y.A (call (.ref f) []) (EP Y pins σY Q) Y.xe s2
structure ToldOk (P:Program) (w:World) (K:PySem.W.Frag) (mg:Str->Option Value) (base:Heap) (x:Str) (k j:Nat):Prop where
 ex:∃ ft,mg x=some (.ref ft)/\PySem.W.keepIn K (.ref ft)=true/\∀ (A:Around) (outer:List Env) (s1:Shared) (G1 H1:Hp) (f:Addr) (Q:VK) (E:XK),Room k A->Env0 P w K mg base A outer s1 H1->Same G1 H1->BA P w K mg base j s1 G1 H1 f Q->
  codeAny (model P w) A (.call (.ref ft) ⟨[.ref f],[]⟩) (CR (CXo P w) outer P w H1 s1 Q E) s1
theorem yJ {h₀:ExceptHandler} {t:TS} (hb:∀ pn xe,PSs (jw X pn xe) body t):PS X (.Try body [h₀] [] [] pos) t:=fun pins s σ H D I h=>by
 refine wpAny_Try_except ?_
 have I1:∀ xe,Inv (jw X (X.pn++pins) xe) [] σ H s:=fun xe=>I.cx (fun p q=>by simpa using q) rfl I.ok.hd
 have back:∀ {xe:Value->Shared->Prop} {pins':List (Addr×Obj)} {σ':St} {H':Hp} {s':Shared},Inv (jw X (X.pn++pins) xe) pins' σ' H' s'->Inv X pins σ' H' s':=fun J=>
  (J.cx (pn':=X.pn) (pins':=pins) (xe':=X.xe) (fun p q=>List.mem_append_left _ q) rfl J.ok.hd:Inv { (jw X (X.pn++pins) _) with A:=X.A,calm:=X.calm,pn:=X.pn,xe:=X.xe } pins _ _ _)
 refine wpAny_mono (hb (X.pn++pins) (fun e K2=>wpAny (model X.prog X.w) X.A (noteFrame e X.env) (fun _ K3=>wpAny (model X.prog X.w) X.A (setFlight e none) (fun _ K9=>
   wpAny (model X.prog X.w) X.A (handleBy e X.env [h₀]) (SP X pins D) X.xe K9) X.xe K3) X.xe K2) [] s σ H D (I1 _) h) (fun fl K2 q=>?_) fun e K2 q=>q
 cases fl with
 | next=>obtain ⟨σ',H',J,q⟩:=q;exact wpAny_execs_nil ⟨σ',H',back J,q⟩
 | brk=>obtain ⟨σ',H',J,q⟩:=q;exact ⟨σ',H',back J,q⟩
 | cont=>obtain ⟨σ',H',J,q⟩:=q;exact ⟨σ',H',back J,q⟩
 | ret u=>obtain ⟨v,σ',H',J,r,q⟩:=q;exact ⟨v,σ',H',back J,r,q⟩
section
variable {P:Program} {w:World} {K:PySem.W.Frag} {mg:Str->Option Value} {base:Heap} {x y:Str} {st:Stmt} {ft:Addr} {fd:FuncData} {k:Nat} {h₀:ExceptHandler} {p1 p2 p3 tpos:Pos} {nm:Str}
theorem yN (F:Fun K x x st ft fd) (hm:mg x=some (.ref ft)) (S:FnScope [y,nm] [y] (ai st)) (hbd:bi st=[.Try [.Return (some (.Call (.Name y p1) [] [] p2)) p3] [h₀] [] [] tpos])
 (hbind:∀ (kV doc pm:Value) (an:Option Addr) (cdv ct:Value) (u:Value),bindArgs (PySem.W.fnOf x x (cB st) (bi st) (ai st) .none kV doc pm an cdv ct) ⟨[u],[]⟩=pure [(y,u)])
 (hy:(ai st).names.lookup y=some .local) (hdy:(y==("__debug__":Str))=false:=by decide) (hcy:(y==("__classdict__":Str))=false:=by decide) :
  ToldOk P w K mg base x (k+1) k:=by
 obtain ⟨oc,od,kV,doc,pm,an,cdv,ct,osl,rfl,lk,hcd⟩:=F.ex
 refine ⟨ft,hm,F.kp,fun A outer s1 G1 H1 f Q E hr e0 sub dd=>?_⟩
 refine Ej (us:=[.ref f]) (vs:=[.ref f]) lk hcd S rfl hr e0 (.of_eq (hbind ..)) (.cons rfl .nil) (t:=fun D σ H=>σ[0]?=some (some (.ref f))/\(∃ G,Up G1 H1 G H)/\∀ v H',Q v H'->D.rt v H') ?_ ⟨rfl,⟨G1,.refl sub⟩,fun v H' q=>q⟩
 rw [hbd]
 have hr':=hr.deeper (envOfC x (ai st) s1.heap.objs.size ft cdv)
 refine mU (yJ (X:=cS (CXo P w) P w K mg base [y,nm] x (ai st) ft cdv A outer s1 H1 E) fun pn xe=>?_)
 refine mU fun pins s σ H D I ⟨h0,⟨G,up⟩,hq⟩=>?_
 have pe:PE (jw (cS (CXo P w) P w K mg base [y,nm] x (ai st) ft cdv A outer s1 H1 E) pn xe) (.Call (.Name y p1) [] [] p2) (fun σ H Q'=>σ[0]?=some (some (.ref f))/\(∃ G,Up G1 H1 G H)/\∀ v H',Q v H'->Q' v H'):=by
  intro pins s σ H Q' I ⟨h0,⟨G,up⟩,hm⟩
  have v:PE (jw (cS (CXo P w) P w K mg base [y,nm] x (ai st) ft cdv A outer s1 H1 E) pn xe) (.Name y p1) (vj 0):=cw rfl (.inl hy) hdy hcy
  refine wpAny_Call_Name_kw (thn (v pins s σ H (fun u H'=>u=.ref f/\H'=H) I ⟨_,h0,rfl,rfl⟩) fun u s' ⟨v',H',I',rv,ev,eh⟩=>?_)
  subst ev eh
  obtain rfl:u=Value.ref f:=rv
  obtain ⟨ob,run⟩:=dd _ pins σ G H' s' _ rfl rfl rfl rfl rfl I' hr' I'.base up
  exact PySem.W.callWith_of rfl (P:=fun h=>∃ o fd,h.get? f=some o/\o.data=.func fd) (fun h ⟨o,fd,e,d⟩=>⟨.frame,.inl rfl,vB e d⟩) (PyProof.Rows.evalArgs_nil3 ⟨ob,wpAny_mono run (fun u s' ⟨v,H2,I2,r2,q⟩=>⟨v,H2,I2,r2,hm v H2 q⟩) fun _ _ q=>q⟩)
 exact oJ pe pins s σ H D I ⟨h0,⟨G,up⟩,fun v H' q=>hq v H' q⟩
end
theorem yQ {K:PySem.W.Frag} {K0:Hp} {m:Bool} {p:Addr} {fs:List (Nat×Fd)} (st:StE K G H σ Z) (ix:List Nat) (e0:σ[i]?=some (some (.ref p))) (sub0:Same G K0) (up:Up G K0 G H) (ob:ObjAt K K0 G H ow 0 m C p fs) :
  StR K G K0 G H (cu 0 (i::ix) σ) (some (.obj m C p fs)::cf 0 ix Z):=by
 have b:=pH st 0 ix
 have eS:cu 0 (i::ix) σ=some (.ref p)::cu 0 ix σ:=by
  unfold cu
  rw [List.replicate_zero,List.nil_append,List.nil_append,List.map_cons,e0];rfl
 rw [eS]
 have get:∀ (j:Nat) x,(some (Sl.obj m C p fs)::cf 0 ix Z)[j]?=some (some x)->(j=0/\x=.obj m C p fs)\/∃ k d,j=k+1/\(cf 0 ix Z)[k]?=some (some (.val d))/\x=.val d:=fun j x e=>by
  cases j with
  | zero=>left;cases e;exact ⟨rfl,rfl⟩
  | succ k=>
   rw [List.getElem?_cons_succ] at e
   obtain ⟨d,rfl⟩:=jg k x e
   exact .inr ⟨k,d,rfl,e,rfl⟩
 have obs:ObSt K K0 G H (some (V.ref p)::cu 0 ix σ) (some (.obj m C p fs)::cf 0 ix Z):=by
  refine ⟨ow,fun j es l e=>?_,fun j m' C' p' fs' e=>?_⟩
  ·rcases get j _ e with ⟨_,z⟩|⟨k,d,_,_,z⟩ <;> cases z
  ·rcases get j _ e with ⟨rfl,z⟩|⟨k,d,_,_,z⟩
   ·cases z;exact ⟨rfl,ob⟩
   ·cases z
 refine ⟨⟨st.sub,?_,fun j d e=>?_,obs.rd⟩,sub0,up,fun j es e=>?_,fun i j es fs l e=>?_,obs⟩
 ·have:=b.len;simp only [List.length_cons,this]
 ·rcases get j _ e with ⟨_,z⟩|⟨k,d',rfl,e',z⟩
  ·cases z
  ·cases z
   obtain ⟨v,ev,rv⟩:=b.val k d e'
   exact ⟨v,by rw [List.getElem?_cons_succ];exact ev,rv⟩
 ·rcases get j _ e with ⟨_,z⟩|⟨k,d,_,_,z⟩ <;> cases z
 ·rcases get i _ e with ⟨_,z⟩|⟨k,d,_,_,z⟩ <;> cases z
def DY (C p:Addr) (Z:Ev):Option (List (Nat×Fd)):=match (Z[0]?:Option (Option Sl)) with
 | some (some (.obj true C' p' fs))=>if C'=C/\p'=p then some fs else none
 | _=>none
theorem DD {p:Addr} {fs:List (Nat×Fd)} (h:DY C p Z=some fs):Z[0]?=some (some (.obj true C p fs)):=by
 unfold DY at h
 split at h
 ·rename_i C' p' fs' e
  by_cases z:C'=C/\p'=p
  ·rw [if_pos z] at h
   obtain ⟨rfl,rfl⟩:=z
   cases h;exact e
  ·rw [if_neg z] at h;cases h
 ·cases h
def ka (C p:Addr) (i:Nat) (Z:Ev) (o:O):O:=match o with
 | .re d Z'=>(match DY C p Z' with
  | some fs'=>.re d (Z.set i (some (.obj true C p fs')))
  | none=>.no)
 | _=>.no
noncomputable def pv (g:R D->R D) (C:Addr) (i:Nat) (ix:List Nat) (gb:Ev->O):Ev->O:=fun Z=>(jZ C Z i).out Z fun o=>
 match gb (some (.obj false C o.1 o.2)::cf 0 ix Z) with
 | .re d _=>(g (.ok d)).out Z fun d=>.re d Z
 | .ex E _=>(g (.ex E)).out Z fun d=>.re d Z
 | _=>ka C o.1 i Z (gb (some (.obj true C o.1 o.2)::cf 0 ix Z))
theorem zU {K0:Hp} {Q:VK} {k:Addr×List (Nat×Fd)->O} (h:rE X K1 K0 σ Q ((jZ C Z i).out Z k)):∃ p fs,Z[i]?=some (some (.obj true C p fs))/\rE X K1 K0 σ Q (k (p,fs)):=by
 unfold jZ at h
 split at h
 ·rename_i C' p fs e
  by_cases z:C'=C
  ·subst z;rw [if_pos rfl] at h;exact ⟨p,fs,e,h⟩
  ·rw [if_neg z] at h;exact h.elim
 ·exact h.elim
section
variable {X:Cx} {scope:Scope} {N':List Str} {ix:List Nat} {params:Arguments} {body:Expr} {lp p pos:Pos} {x:Str} {k j i:Nat} {C:Addr} {gb:Ev->O} {g:R D->R D}
end
section
variable {X:Cx} {scope:Scope} {N':List Str} {ix:List Nat} {params:Arguments} {body:Expr} {lp p pos:Pos} {x:Str} {k j i:Nat} {C:Addr} {gb:Ev->O} {g:R D->R D}
end
section
variable {X:Cx} {a b:Expr} {cV:List Expr} {g g1 g2:Ev->O} {gb:Ev->R D} {pos:Pos}
end
end L2
namespace L2
open PySem PySem.Spec PyProof.Rows
section
variable {X:Cx} {pos:Pos}
end
section
variable {X:Cx} {cV:List Stmt} {α:Type} {g2:α->Ev->O} {e e3:Expr} {es:List Expr} {gl gl':Ev->R (List D)} {ga:Ev->R D} {cn:Str} {k n:Nat} {C:Addr} {F:MF} {pos:Pos}
end
end L2
namespace L2
open PySem PySem.Spec PyProof.Rows
def qy (g:Ev->O):Ev->O:=fun Z=>(g Z).thenX fun _ Z'=>.nx Z'
end L2
namespace L2
open PySem PySem.Spec PyProof.Rows
section
variable {X:Cx} {e:Expr} {ga:Ev->R D} {gl:Ev->R (List D)}
end
section
variable {X:Cx} {e o:Expr} {ga:Ev->R D} {gl:Ev->R (List D)}
end
section
variable {Y:Cx} {pins:List (Addr×Obj)} {σY σ:St} {H:Hp} {s:Shared} {f:Addr} {o:Obj} {N:List Str} {qual:Str} {params:Arguments} {body:Expr} {scope:Scope} {cl:List (Str×Addr)} {pm cd ctv:Value} {k:Nat} {te:TE} {Q:VK} {E:XK} {x:Str} {u:Value} {v:V}
end
section
variable {X:Cx} {a:Expr} {ga gb:Ev->R D} {scope:Scope} {N':List Str} {ix:List Nat} {params:Arguments} {body:Expr} {lp p pos kp:Pos} {x:Str} {j:Nat}
end
section
variable {X:Cx} {a:Expr} {ga gb:Ev->R D} {scope:Scope} {N':List Str} {ix:List Nat} {params:Arguments} {body:Expr} {lp p pos kp:Pos} {x:Str} {j:Nat}
end
section
variable {X:Cx} {a b:Expr} {gl:Ev->R (List D)} {p p2 pos pos2:Pos}
end
end L2
namespace L2
open PySem PySem.Spec PyProof.Rows
open PySem.AutoSeq1 (wpAny_loadPart')
open PySem.MeetsSeq PySem.MeetsSeq2 PySem.MeetsSeq3
inductive NumPairs:List (Value×Value)->List Int->List Int->Prop
 | nil:NumPairs [] [] []
 | cons {zs:List (Value×Value)} {xs ys:List Int} (i:Int) (t:Addr) (j:Int) (u:Addr) (r:NumPairs zs xs ys):NumPairs ((.int i t,.int j u)::zs) (i::xs) (j::ys)
section
variable {X:Cx} {scope:Scope} {N':List Str} {ix:List Nat} {params:Arguments} {body:Expr} {x:Str} {j:Nat} {pins:List (Addr×Obj)} {σ:St} {H0 G:Hp} {Ii S l f:Addr} {qual:Str} {cl:List (Str×Addr)} {pm cd ctv:Value} {σ':St} {Z':Ev} {gb:Ev->R D} {vs:List V} {dd:D} {Rr:Result->Shared->Prop}
end
section
variable {X:Cx} {scope:Scope} {N':List Str} {ix:List Nat} {params:Arguments} {body:Expr} {x:Str} {j:Nat} {pins:List (Addr×Obj)} {σ:St} {H G:Hp} {l f:Addr} {qual:Str} {cl:List (Str×Addr)} {pm cd ctv:Value} {σ':St} {Z':Ev} {gb:Ev->R D} {vr:List V} {v0:V} {d0 dd:D} {ds ks:List D} {kb:List Int} {s:Shared} {o:Obj} {Q:VK}
end
section
variable {X:Cx} {a:Expr} {ga gb:Ev->R D} {scope:Scope} {N':List Str} {ix:List Nat} {params:Arguments} {body:Expr} {lp p pos kp:Pos} {x:Str} {j:Nat}
end
section
variable {X:Cx} {pins:List (Addr×Obj)} {σ:St} {H G:Hp} {Ii S l:Addr} {vs:List V} {dd:D} {Rr:Result->Shared->Prop}
end
section
variable {X:Cx} {e o:Expr} {ga:Ev->R D} {gl:Ev->R (List D)}
end
section
variable {X:Cx} {a:Expr} {gl:Ev->R (List D)} {p p2 pos pos2:Pos}
end
end L2
namespace L2
open PySem PySem.Spec PyProof.Rows
section
variable {X:Cx} {elt iter:Expr} {ifs:List Expr} {x:Str} {px pos:Pos} {scope:Scope} {gi:Ev->R (List D)} {gt:Ev->R Bool} {ge:Ev->R D}
structure CompOkC (X:Cx) (scope:Scope) (x:Str):Prop where
 kind:scope.kind=.function
 names:∀ y∈scope.names,y.2=.local->scope.names.lookup y.1=some .local
 nofree:∀ y∈scope.names,y.2 ≠ .free
 cells:∀ L,cellsFrom L scope.names []=[(x,L)]
 lk:scope.names.lookup x=some .cell
 only:∀ y,scope.names.lookup y=some .cell->y=x
end
end L2
namespace L2
open PySem PySem.Spec PyProof.Rows
def nW (C:Addr) (i k:Nat):Ev->R (List D):=fun Z=>iH C Z i>>=fun fs=>fldL fs k>>=fun ds=>.ok ds
section
variable {X:Cx} {x f:Str} {p1 p2 p3 pos:Pos} {C:Addr} {ks:List Nat}
end
abbrev TF:=List (Nat×Fd)->Option (List (Nat×Fd))
noncomputable def spT (K:PySem.W.Frag) (C:Addr) (F:TF):Sp:=fun vs H Q E=>∃ G p fs ow,vs=[.ref p]/\Same G H/\(∀ a t,ow a=some t->G a=none)/\ObjAt K (fun _=>none) G H ow 0 true C p fs/\
 ∃ fs',F fs=some fs'/\∀ x G' H' ow',Up G H G' H'->ObjAt K H G' H' ow' 0 true C x fs'->Q (.ref x) H'
noncomputable abbrev FnT (P:Program) (w:World) (K:PySem.W.Frag) (mg:Str->Option Value) (base:Heap) (k:Nat) (f:Addr) (fd:FuncData) (ps:List Str) (C:Addr) (F:TF):Prop:=FnOk P w K mg base (CXo P w) k f fd ps (fun vs H Q E=>vs.length=ps.length/\spT K C F vs H Q E)
structure TCallee (P:Program) (w:World) (K:PySem.W.Frag) (mg:Str->Option Value) (base:Heap) (C:Addr) (mn:Str) (k:Nat) (F:TF):Prop where
 ex:∃ f fd ps,FnT P w K mg base k f fd ps C F/\Meth K C mn f/\Binds K fd ps []/\ps.length=1
theorem TCallee.mono {w:World} {K:PySem.W.Frag} {mg:Str->Option Value} {base:Heap} {mn:Str} {F:TF} (c:TCallee P w K mg base C mn k F) (k':Nat) (h:k<=k':=by decide):TCallee P w K mg base C mn k' F:=by
 obtain ⟨f,fd,ps,M,hm,hb,e⟩:=c.ex
 exact ⟨f,fd,ps,{ M with run:=fun A outer s H args us vs Q E hr=>M.run A outer s H args us vs Q E (hr.mono h) },hm,hb,e⟩
theorem BT {w:World} {K:PySem.W.Frag} {mg:Str->Option Value} {base:Heap} {F:TF} (Fn:Fun K x qual st f fd) (m:Meth K C x f) (ok:FnT P w K mg base k f fd ps C F)
 (h:∀ (kV doc pm:Value) (an:Option Addr) (cdv ct:Value) (us:List Value),us.length=ps.length->bindArgs (PySem.W.fnOf x qual (cB st) (bi st) (ai st) .none kV doc pm an cdv ct) ⟨us,[]⟩=pure (ps.zip us)) (e:ps.length=1):TCallee P w K mg base C x k F:=
 ⟨⟨f,fd,ps,ok,m,Fn.binds h,e⟩⟩
noncomputable def Jy {α:Type} (X:Cx) (C:Addr) (j:Nat) (sts:List Stmt) (g:α->Ev->Option (Addr×List (Nat×Fd))):Prop:=∀ K1 K0,PSs X sts fun D σ H=>∃ G Z,StR X.K K1 K0 G H σ Z/\
 ∀ q,∃ x fs,g q Z=some (x,fs)/\∀ σ' G' H' Z',StR X.K K1 K0 G' H' σ' Z'->Z'[j]?=some (some (.obj true C x fs))->D.rt (.ref x) H'
def Hi (C:Addr) (j:Nat):Unit->Ev->Option (Addr×List (Nat×Fd)):=fun _ Z=>match Z[j]? with
 | some (some (.obj true C' x fs))=>if C'=C then some (x,fs) else none
 | _=>none
def D0 {α:Type} (g1:Ev->O) (g2:α->Ev->Option (Addr×List (Nat×Fd))):α->Ev->Option (Addr×List (Nat×Fd)):=fun q Z=>match g1 Z with
 | .nx Z'=>g2 q Z'
 | _=>none
noncomputable def Gx {α:Type} (C:Addr) (i:Nat) (F:MF) (n:Nat) (gl:Ev->R (List D)) (g2:α->Ev->Option (Addr×List (Nat×Fd))):Addr×α->Ev->Option (Addr×List (Nat×Fd)):=fun q Z=>match gl Z>>=yf F n with
 | .ok fs=>g2 q.2 (Z.set i (some (.obj true C q.1 fs)))
 | _=>none
section
variable {X:Cx} {st:Stmt} {cV:List Stmt} {g1:Ev->O} {α:Type} {g2:α->Ev->Option (Addr×List (Nat×Fd))} {e:Expr} {es:List Expr} {gl:Ev->R (List D)} {cn:Str} {k n j:Nat} {C:Addr} {F:MF} {p pos:Pos}
end
def Hl (X:Cx) (C:Addr) (i:Nat) (F:TF):TE:=fun σ H Q=>∃ G Z p fs fs',StE X.K G H σ Z/\(∃ m,Z[i]?=some (some (.obj m C p fs)))/\F fs=some fs'/\∀ x G' H' ow',Up G H G' H'->ObjAt X.K H G' H' ow' 0 true C x fs'->Q (.ref x) H'
def vF {α:Type} (C:Addr) (i j:Nat) (F:TF) (g2:α->Ev->O):Addr×α->Ev->O:=fun q Z=>(iH C Z i).out Z fun fs=>match F fs with
 | some fs'=>g2 q.2 (Z.set j (some (.obj true C q.1 fs')))
 | none=>.no
section
variable {X:Cx} {x mn:Str} {p1 ap pos:Pos} {C:Addr} {ks:List Nat} {k:Nat} {F:TF}
theorem DH {pl:Sem Bool} (i:Nat) (c:CF X.K C ks) (t:TCallee X.prog X.w X.K X.mg X.base C mn k F) (hr:Room k X.A) (hi:X.N[i]?=some x:=by rfl) (hv:Vis X.env.scope x:=by first|exact Or.inl rfl|exact Or.inr (Or.inl rfl)|exact Or.inr (Or.inr rfl))
 (hd:(x==("__debug__":Str))=false:=by decide) (hcd:(x==("__classdict__":Str))=false:=by decide) (hmn:∀ k,k<fnames.length->(mn==cq k)=false:=by decide)
 (ht:eval (.Call (.Attribute (.Name x p1) mn ap) [] [] pos) X.env=(do
 let ov <- eval (.Name x p1) X.env
 standAt ap.atName
 let (f,first) <- holding [ov] (getMethod ov mn pl)
 callWith pos f first (backTo pos (starEach [] X.env)) (backToKw pos (keywordEach [] X.env))):=by rfl) :
  PE X (.Call (.Attribute (.Name x p1) mn ap) [] [] pos) (Hl X C i F):=fun pins s σ H Q I ⟨G,Z,p,fs,fs',st,⟨m,e1⟩,ef,h⟩=>by
 obtain ⟨f,fd,ps,M,hm,hb,hl⟩:=t.ex
 obtain ⟨h1,ow,ob⟩:=st.obs i m C p fs e1
 refine PySem.W.methodCall_KW (pl:=pl) (thn (cw hi hv hd hcd pins s σ H (fun u H'=>u=.ref p/\H'=H) I ⟨_,h1,rfl,rfl⟩) fun u s1 ⟨v,H',I1,rv,ev,eh⟩=>?_) ht
 subst ev eh
 obtain rfl:u=Value.ref p:=rv
 obtain ⟨dx,vs,g1,_,_,_,_,_,_,g8⟩:=id ob
 refine dU I1 g1 c.cl hm (g8.none hmn) (PySem.W.callWith_K0 (first:=[.ref p]) I1.kIn hm.kp ?_)
 have hvl:[V.ref p].length=ps.length:=hl.symm
 have hbb:=hb s1 [.ref p] I1.kIn (by rw [hl];rfl)
 refine wpAny_call (codeAny_mono (M.run X.A X.stack s1 H' ⟨[.ref p],[]⟩ [.ref p] [.ref p] Q (fun _ _ _=>False) hr I1.env0 hbb (.cons rfl .nil) ⟨hvl,G,p,fs,_,rfl,st.sub,fun a t q=>(dZ q).2.2.1,ob.cut,fs',ef,h⟩) fun r s' hq=>?_)
 cases r with
 | error e'=>obtain ⟨_,_,_,_,_,z⟩:=hq;exact z.elim
 | ok fl=>
  cases fl with
  | ret u=>exact I1.after hq
  | _=>exact False.elim hq
end
def qK (a i:Nat) (ow:jF):jF:=fun b=>match ow b with
 | some (t,k)=>if t=a then some (i,k) else if t=i then none else some (t,k)
 | none=>none
theorem qc {a:Nat} (h:ow b=some (a,k)):qK a i ow b=some (i,k):=by
 unfold qK;rw [h];exact if_pos rfl
theorem uO {a t:Nat} (h:ow b=some (t,k)) (n1:t≠a) (n2:t≠i):qK a i ow b=some (t,k):=by
 unfold qK;rw [h];exact (if_neg n1).trans (if_neg n2)
section
variable {K:PySem.W.Frag} {K0 G H:Hp} {ow:jF} {a i:Nat} {m:Bool} {C p:Addr}
theorem FdAt.moved:∀ {fd:Fd} {v:V},FdAt K K0 G H ow a m k fd v->FdAt K K0 G H (qK a i ow) i m k fd v
 | .val _,_,r=>r
 | .own _,_,⟨l,ws,e,h1,h2,h3,h4,h5⟩=>⟨l,ws,e,h1,h2,h3,h4,qc h5⟩
theorem FdsAt.moved:∀ {fs:List (Nat×Fd)} {vs:List (Str×V)},FdsAt K K0 G H ow a m fs vs->FdsAt K K0 G H (qK a i ow) i m fs vs
 | _,_,.nil=>.nil
 | _,_,.cons h nk r t=>.cons h nk r.moved t.moved
theorem ObjAt.moved {fs:List (Nat×Fd)} (h:ObjAt K K0 G H ow a m C p fs):ObjAt K K0 G H (qK a i ow) i m C p fs:=by
 obtain ⟨dx,vs,h1,h2,h3,h4,h5,h6,h7,h8⟩:=h
 exact ⟨dx,vs,h1,h2,h3,h4,h5,qc h6,qc h7,h8.moved⟩
theorem StR.move {fs:List (Nat×Fd)} (s:StR K K1 K0 G H σ Z) (e:Z[a]?=some (some (.obj true C p fs))) (ne:a≠i):StR K K1 K0 G H (σ.set i (some (.ref p))) ((Z.set a none).set i (some (.obj true C p fs))):=by
 have get:∀ (j:Nat) y,((Z.set a none).set i (some (.obj true C p fs)))[j]?=some (some y)->(j=i/\y=.obj true C p fs/\i<σ.length)\/(j≠i/\j≠a/\Z[j]?=some (some y)/\(σ.set i (some (.ref p)))[j]?=σ[j]?):=fun j y h=>by
  by_cases z:i=j
  ·subst z
   have hl:i<(Z.set a none).length:=by simpa using (List.getElem?_eq_some_iff.mp h).1
   rw [List.getElem?_set_self hl] at h
   exact .inl ⟨rfl,by injection (Option.some.inj h) with q;exact q.symm,by simpa [s.e.len] using hl⟩
  ·rw [List.getElem?_set_ne z] at h
   by_cases y2:a=j
   ·subst y2
    rw [List.getElem?_set_self (List.getElem?_eq_some_iff.mp e).1] at h
    cases h
   ·rw [List.getElem?_set_ne y2] at h
    exact .inr ⟨fun q=>z q.symm,fun q=>y2 q.symm,h,List.getElem?_set_ne z⟩
 obtain ⟨ow,o1,o2⟩:=s.ob
 have ob:ObSt K K0 G H (σ.set i (some (.ref p))) ((Z.set a none).set i (some (.obj true C p fs))):=by
  refine ⟨qK a i ow,fun j ds l h1 h2=>?_,fun j m' C' p' fs' h1=>?_⟩
  ·rcases get j _ h1 with ⟨_,z,_⟩|⟨n1,n2,z,z'⟩
   ·cases z
   ·exact uO (o1 j ds l z (z' ▸ h2)) n2 n1
  ·rcases get j _ h1 with ⟨rfl,z,hl⟩|⟨n1,n2,z,z'⟩
   ·cases z
    exact ⟨List.getElem?_set_self hl,(o2 a true C p fs e).2.moved⟩
   ·refine ⟨by rw [z'];exact (o2 j m' C' p' fs' z).1,(o2 j m' C' p' fs' z).2.keep ⟨fun b t o _ q=>q,.refl _,fun b t o _ _ n=>n,fun b t o q _=>uO q n2 n1,fun b o _ _ n=>n⟩⟩
 refine ⟨⟨s.e.sub,by simp [s.e.len],fun j d h=>?_,ob.rd⟩,s.sub0,s.up,fun j ds h=>?_,fun j k ds es l h1 h2 h3 h4=>?_,ob⟩
 ·rcases get j _ h with ⟨_,z,_⟩|⟨_,_,z,z'⟩
  ·cases z
  ·rw [z'];exact s.e.val j d z
 ·rcases get j _ h with ⟨_,z,_⟩|⟨_,_,z,z'⟩
  ·cases z
  ·rw [z'];exact s.own j ds z
 ·rcases get j _ h1 with ⟨_,z,_⟩|⟨_,_,z,z'⟩
  ·cases z
  ·rcases get k _ h2 with ⟨_,y,_⟩|⟨_,_,y,y'⟩
   ·cases y
   ·exact s.inj j k ds es l z y (z' ▸ h3) (y' ▸ h4)
end
noncomputable def mvO (C:Addr) (a i j:Nat) (p:Addr) (d:D) (Z:Ev):Option Ev:=match Z[a]? with
 | some (some (.obj true C' p' fs))=>if C'=C/\p'=p then some (((Z.set a none).set i (some (.obj true C p fs))).set j (some (.val d))) else none
 | _=>none
theorem StR.mvO {K:PySem.W.Frag} {K0:Hp} {Z':Ev} {p:Addr} {a:Nat} (s:StR K K1 K0 G H σ Z) (e:L2.mvO C a i j p d Z=some Z') (ne:a≠i) (r:Rep K G v d):StR K K1 K0 G H ((σ.set i (some (.ref p))).set j (some v)) Z':=by
 unfold L2.mvO at e
 split at e
 ·rename_i C' p' fs e1
  split at e
  ·rename_i z
   obtain ⟨rfl,rfl⟩:=z
   cases e
   exact (s.move e1 ne).set r j
  ·cases e
 ·cases e
def Fj (m2:Ev->Option Ev) (g:Ev->O):Ev->O:=fun Z=>match m2 Z with
 | some Z1=>(match g Z1 with
  | .nx Z2=>.nx Z2
  | .rt d=>.rt d
  | _=>.no)
 | none=>.no
def El (m1:Ev->Option Ev) (m2:Ev->Option Ev) (g:Ev->O):Ev->O:=fun Z=>match m1 Z with
 | some Z1=>(match g Z1 with
  | .nx Z2=>Fj m2 g Z2
  | .rt d=>.rt d
  | _=>.no)
 | none=>.no
def C3 (C:Addr) (a b i j:Nat) (n1 n2:Int) (g:Ev->O):Ev->O:=fun Z=>(jZ C Z a).out Z fun oa=>(jZ C Z b).out Z fun ob=>El (mvO C a i j oa.1 (.int n1)) (mvO C b i j ob.1 (.int n2)) g Z
section
variable {X:Cx} {C:Addr} {body:List Stmt} {g:Ev->O} {pos:Pos}
end
noncomputable def xN {α:Type} (C:Addr) (i j:Nat) (F:MF) (n:Nat) (gl:Ev->R (List D)) (gb:Ev->R D) (g2:α->Ev->O):Addr×α->Ev->O:=fun q Z=>(fN (gl Z>>=yf F n)).out Z fun fs=>(fN (gb Z)).out Z fun d=>g2 q.2 ((Z.set i (some (.obj true C q.1 fs))).set j (some (.val d)))
end L2
namespace L2
open PySem PySem.Spec PyProof.Rows
@[irreducible] def Dt {α:Type} (X:Cx) (C:Addr) (j:Nat) (e:List Stmt) (g:α->Ev->Option (Addr×List (Nat×Fd))):Prop:=Jy X C j e g
@[irreducible] def zQ {α:Type} (X:Cx) (e:List Stmt) (g:α->Ev->O):Prop:=Jb X e g
@[irreducible] def PFX (X:Cx) (e:Expr) (g:Ev->O):Prop:=QFX X e g
@[irreducible] def PBX (X:Cx) (e:Expr) (g:Ev->O):Prop:=QBX X e g
@[irreducible] def ES (X:Cx) (e:Expr) (g:Ev->O):Prop:=Jt X e g
@[irreducible] def PF (X:Cx) (e:Expr) (g:Ev->R D):Prop:=QF X e g
@[irreducible] def PFA (X:Cx) (e:List Expr) (g:Ev->R (List D)):Prop:=QFA X e g
@[irreducible] def PB (X:Cx) (e:Expr) (g:Ev->R Bool):Prop:=QB X e g
@[irreducible] def PBW (X:Cx) (e:Expr) (g:Ev->R Bool):Prop:=QBW X e g
@[irreducible] def PSF (X:Cx) (e:Stmt) (g:Ev->O):Prop:=QSF X e g
@[irreducible] def qm (X:Cx) (e:List Stmt) (g:Ev->O):Prop:=zF X e g
@[irreducible] def PFL (X:Cx) (e:Expr) (g:Ev->R (List D)):Prop:=QFL X e g
@[irreducible] def PIF (X:Cx) (tg e:Expr) (g:Ev->R (List D)):Prop:=QIF X tg e g
@[irreducible] def PFO (X:Cx) (e:Option Expr) (g:Ev->R (Option Int)):Prop:=QFO X e g
local macro_rules | `(tactic| walk_at "u")=>`(tactic| ((try unfold Dt at *);(try unfold zQ at *);(try unfold PFX at *);(try unfold PBX at *);(try unfold ES at *);(try unfold PF at *);(try unfold PFA at *);(try unfold PB at *);(try unfold PBW at *);(try unfold PSF at *);(try unfold qm at *);(try unfold PFL at *);(try unfold PIF at *);(try unfold PFO at *)))
section
variable {X:Cx} {e a b c:Expr} {ga gb gc:Ev->R D} {pos:Pos}
theorem al {i:Int}:PF X (.Constant (.int i) j pos) (fun _=>.ok (.int i)):=by
 with_unfolding_all exact dS yb fun _ _=>.int i
theorem iV {k:Bool}:PF X (.Constant (.bool k) j pos) (fun _=>.ok (.bl k)):=by
 with_unfolding_all exact dS GF fun _ _=>.bl k
theorem F6:PF X (.Constant .none j pos) (fun _=>.ok .non):=by
 with_unfolding_all exact dS Ek fun _ _=>.non
theorem bb {l:List Nat} (hl:x.cps.toList=l:=by rfl) (hz:l.length<=1000:=by decide):PF X (.Constant (.str x) j pos) (fun _=>.ok (.str l)):=by
 with_unfolding_all exact dS EJ fun _ _=>.strL hl (Nat.le_trans hz (by decide))
theorem dI {i:Int} {t:Tok} (hg:Gl X x) (hm:X.mg x=some (.int i t)) (hd:(x==("__debug__":Str))=false:=by decide):PF X (.Name x pos) (fun _=>.ok (.int i)):=by
 with_unfolding_all exact dS (tT (v:=.int i) hg hm ⟨t,rfl⟩ hd) fun _ _=>.int i
end
section
variable {X:Cx}
theorem bh {a b:Expr} {ga:Ev->R D} (ha:PF X a ga) (hb:PF X b gb):PF X (.BinOp a .Add b pos) (g2 bL ga gb):=by
 with_unfolding_all exact iM Dj (FU _) ha hb
theorem nz {a b:Expr} {ga:Ev->R D} (ha:PF X a ga) (hb:PF X b gb):PF X (.BinOp a .Sub b pos) (g2 xh ga gb):=by
 walk_at "u"
 exact iM FF (by
  intro G H x y dx dy d Q s rx ry e q
  unfold xh at e
  split at e
  ·cases e
   exact ⟨_,_,rx.int_inv,ry.int_inv,q _ G H (.refl s) (.int _)⟩
  ·cases e) ha hb
theorem De {a b:Expr} {ga:Ev->R D} (ha:PF X a ga) (hb:PF X b gb):PF X (.BinOp a .FloorDiv b pos) (g2 AG ga gb):=by
 walk_at "u"
 exact iM Dy (by
  intro G H x y dx dy d Q s rx ry e q
  unfold AG at e
  split at e
  ·split at e
   ·rename_i hc
    cases e
    exact ⟨_,_,rx.int_inv,ry.int_inv,hc,q _ G H (.refl s) (.int _)⟩
   ·cases e
  ·cases e) ha hb
theorem vJ {a b:Expr} {ga:Ev->R D} (ha:PF X a ga) (hb:PF X b gb):PF X (.BinOp a .Mod b pos) (g2 xG ga gb):=by
 walk_at "u"
 exact iM Go (by
  intro G H x y dx dy d Q s rx ry e q
  unfold xG at e
  split at e
  ·split at e
   ·rename_i hc
    cases e
    exact ⟨_,_,rx.int_inv,ry.int_inv,hc,q _ G H (.refl s) (.int _)⟩
   ·cases e
  ·cases e) ha hb
end
section
variable {X:Cx} {a b c e:Expr} {ga gb gc:Ev->R D} {pos:Pos}
theorem HX (ha:PF X a ga) (hb:PF X b gb):PF X (.Compare a [.LtE] [b] pos) (g2 leD ga gb):=by
 with_unfolding_all exact kT oE (wK _) ha hb (ic _)
theorem Hx (ha:PF X a ga) (hb:PF X b gb):PF X (.Compare a [.Lt] [b] pos) (g2 ltD ga gb):=by
 with_unfolding_all exact kT xP (Cu _) ha hb (ic _)
theorem uz (ha:PF X a ga) (hb:PF X b gb) (hc:PF X c gc) (hm:lastMarks [.LtE,.LtE] [b,c]=false:=by with_unfolding_all rfl):PF X (.Compare a [.LtE,.LtE] [b,c] pos) (g3 leD leD ga gb gc):=by
 with_unfolding_all exact wf oE oE (wK _) (wK _) ha hb hc hm
end
section
variable {X:Cx} {a b:Expr} {ga gb:Ev->R D} {pos:Pos}
theorem xH (hu:X.A.units+64<cLine) (ha:PF X a ga) (hb:PF X b gb):PF X (.Compare a [.Eq] [b] pos) (g2 eqF ga gb):=by
 walk_at "u"
 exact kT (Bq hu) (by
  intro G H x y dx dy d Q s rx ry e q
  unfold eqF at e
  cases e1:eqD 40 dx dy with
  | none=>rw [e1] at e;cases e
  | some k=>rw [e1] at e;cases e;exact ⟨G,dx,dy,k,s,rx,ry,e1,q _ G H (.refl s) (.bl k)⟩) ha hb (ic _)
theorem D7 (hu:X.A.units+64<cLine) (ha:PF X a ga) (hb:PF X b gb):PF X (.Compare a [.NotEq] [b] pos) (g2 neF ga gb):=by
 walk_at "u"
 exact kT (yR hu) (by
  intro G H x y dx dy d Q s rx ry e q
  unfold neF at e
  cases e1:eqD 40 dx dy with
  | none=>rw [e1] at e;cases e
  | some k=>rw [e1] at e;cases e;exact ⟨G,dx,dy,k,s,rx,ry,e1,q _ G H (.refl s) (.bl (!k))⟩) ha hb (ic _)
end
section
variable {X:Cx} {a b c e:Expr} {es cV:List Expr} {ga gb gc:Ev->R D} {gt gu:Ev->R Bool} {gl:Ev->R (List D)} {pos:Pos}
theorem jt {op:BoolOp} (h:PF X a ga):PF X (.BoolOp op [a] pos) ga:=by
 with_unfolding_all exact EX h
theorem hZ (ha:PF X a ga) (hb:PF X (.BoolOp .And (b::cV) pos) gb):PF X (.BoolOp .And (a::b::cV) pos) (ql ga gb):=by
 walk_at "u"
 intro pins s σ H Q I h
 refine EF ha hb pins s σ H Q I ?_
 obtain ⟨G,Z,st,h⟩:=h
 refine tG.intro st h fun x v G1 H1 u1 st1 r1 h1=>?_
 obtain ⟨c,ec,ed,h2⟩:=asB.ok r1 h1
 subst ec ed
 refine ⟨c,rfl,?_⟩
 cases c with
 | true=>rw [if_pos rfl] at h2 ⊢;exact tG.last st1 h2
 | false=>rw [if_neg Bool.false_ne_true] at h2 ⊢;exact h2 _ G1 H1 (.refl st1.sub) (.bl false)
theorem Gb (ha:PF X a ga) (hb:PF X (.BoolOp .Or (b::cV) pos) gb):PF X (.BoolOp .Or (a::b::cV) pos) (gOr ga gb):=by
 walk_at "u"
 intro pins s σ H Q I h
 refine HE ha hb pins s σ H Q I ?_
 obtain ⟨G,Z,st,h⟩:=h
 refine tG.intro st h fun x v G1 H1 u1 st1 r1 h1=>?_
 obtain ⟨c,ec,ed,h2⟩:=asB.ok r1 h1
 subst ec ed
 refine ⟨c,rfl,?_⟩
 cases c with
 | true=>rw [if_pos rfl] at h2 ⊢;exact h2 _ G1 H1 (.refl st1.sub) (.bl true)
 | false=>rw [if_neg Bool.false_ne_true] at h2 ⊢;exact tG.last st1 h2
theorem Ed (ha:PF X a ga):PF X (.UnaryOp .Not a pos) (HI ga):=by
 walk_at "u"
 intro pins s σ H Q I h
 refine EO ha pins s σ H Q I ?_
 obtain ⟨G,Z,st,h⟩:=h
 refine tG.intro st h fun x v G1 H1 u1 st1 r1 h1=>?_
 obtain ⟨c,ec,ed,h2⟩:=asB.ok r1 h1
 subst ec ed
 exact ⟨c,rfl,h2 _ G1 H1 (.refl st1.sub) (.bl _)⟩
theorem Hh (ha:PF X a ga) (hb:PF X b gb):PB X (.Compare a [.GtE] [b] pos) (fun Z=>g2 geD ga gb Z>>=asB):=by
 with_unfolding_all exact jC Ij (Ic _) ha hb (ic _)
theorem fk (ha:PB X a gt):PBW X (.BoolOp .Or [a] pos) gt:=by
 with_unfolding_all exact A7 ha
theorem jE (ha:PB X a gt) (hb:PBW X (.BoolOp .Or (b::cV) pos) gu):PBW X (.BoolOp .Or (a::b::cV) pos) (su gt gu):=by
 walk_at "u"
 intro whole pins s σ H Q I h
 refine EE ha hb whole pins s σ H Q I ?_
 obtain ⟨G,Z,st,h⟩:=h
 refine tG.intro st h fun x v G1 H1 u1 st1 r1 h1=>?_
 subst r1
 cases v with
 | true=>rw [if_pos rfl] at h1 ⊢;exact h1 _ G1 H1 (.refl st1.sub) rfl
 | false=>rw [if_neg Bool.false_ne_true] at h1 ⊢;exact tG.last st1 h1
theorem wV (hc:PB X c gt) (ha:PF X a ga) (hb:PF X b gb):PF X (.IfExp c a b pos) (gIf gt ga gb):=by
 walk_at "u"
 intro pins s σ H Q I h
 refine uK hc ha hb pins s σ H Q I ?_
 obtain ⟨G,Z,st,h⟩:=h
 refine tG.intro st h fun x v G1 H1 u1 st1 r1 h1=>?_
 subst r1
 cases v with
 | true=>rw [if_pos rfl] at h1 ⊢;exact tG.last st1 h1
 | false=>rw [if_neg Bool.false_ne_true] at h1 ⊢;exact tG.last st1 h1
theorem ag:PFA X [] (fun _=>.ok []):=by
 with_unfolding_all exact qI
theorem aU (ha:PF X a ga) (hb:PF X b gb) (hs:sU b:=by exact fun _ _=>rfl):PF X (.Subscript a b pos) (g2 ixD ga gb):=by
 walk_at "u"
 exact fun pins s σ H Q I h=>Fe ER ha hb hs pins s σ H Q I (Ag (HS _) h)
end
section
variable {X:Cx} {a b c e:Expr} {es cV:List Expr} {lo hi:Option Expr} {ga gb gc:Ev->R D} {go gp:Ev->R (Option Int)} {gl:Ev->R (List D)} {pos p2:Pos}
theorem dt:PFO X none (fun _=>.ok none):=by
 walk_at "u"
 intro pins s σ H Q I h
 obtain ⟨G,Z,st,h⟩:=h
 exact Dc pins s σ H Q I (h none G H (.refl st.sub) rfl)
theorem du (ha:PF X a ga) (hl:PFO X lo go) (hu:PFO X hi gp):PF X (.Subscript a (.Slice lo hi none p2) pos) (gSl ga go gp):=by
 walk_at "u"
 intro pins s σ H Q I h
 refine AJ Fh ha hl hu pins s σ H Q I ?_
 obtain ⟨G,Z,st,h⟩:=h
 refine tG.intro st h fun x v G1 H1 u1 st1 r1 h1=>?_
 refine tG.intro st1 h1 fun l l' G2 H2 u2 st2 r2 h2=>?_
 subst r2
 refine tG.intro st2 h2 fun u u' G3 H3 u3 st3 r3 h3=>?_
 subst r3
 obtain ⟨d,e,q⟩:=ofO.ok h3
 have r:=(r1.mono u2.gg).mono u3.gg
 unfold D1 at e
 split at e
 ·cases e
  obtain ⟨y,rfl,ey,hy⟩:=r.str_inv
  subst ey
  exact .inl ⟨y,rfl,hy,q _ G3 H3 (.refl st3.sub) (.strL (zb y _ _) (Nat.le_trans (CO _ _ _) (by rw [Str.len_list];exact hy)))⟩
 ·rename_i xs0
  cases e
  obtain ⟨a,vs,rfl,h,t⟩:=r.tup_inv
  by_cases hw:HT.sIx vs.length 0 l'=0/\HT.sIx vs.length vs.length u'=vs.length
  ·refine .inr (.inl ⟨a,vs,rfl,h.mono st3.sub,hw,q _ G3 H3 (.refl st3.sub) ?_⟩)
   have e1:nT xs0 l' u'=xs0:=by
    unfold nT
    rw [<- t.length,hw.1,hw.2,List.drop_zero,Nat.sub_zero,t.length,List.take_length]
   rw [e1]
   exact .tup h t
  ·exact .inr (.inr (.inl ⟨a,vs,rfl,h.mono st3.sub,hw,fun p hp=>q _ _ _ (.new st3.sub hp) (.tup (.of aX) ((t.cut _ _).mono (.into (st3.sub.free hp))))⟩))
 ·cases e
  obtain ⟨a,vs,rfl,h,t⟩:=r.seq_inv
  exact .inr (.inr (.inr ⟨a,vs,rfl,h.mono st3.sub,fun p hp=>q _ _ _ (.new st3.sub hp) (.lst aX ((t.cut _ _).mono (.into (st3.sub.free hp))))⟩))
 ·cases e
theorem yc {T:String} {r:List V->Hp->VK->Prop} {f:List D->Option D} (hc:jW X (.type T) r) (hf:E5 X.K r f) (hg:Gl X x) (hm:X.mg x=none) (hv:bootBuiltins x=some (.type T)) (ha:PFA X (e::es) gl)
 (hn:x ≠ "__name__":=by decide) (hdb:(x==("__debug__":Str))=false:=by decide)
 (he:starEach (e::es) X.env=(false,eval e X.env)::starEach es X.env:=by rfl) (hpl:(backTo pos (starEach es X.env)).any (·.1)=false:=by rfl):PF X (.Call (.Name x p) (e::es) [] pos) (fun Z=>gl Z>>=fun ds=>ofO (f ds)):=by
 with_unfolding_all exact lK hc hf hg hm hv ha hn hdb he hpl
end
section
variable {X:Cx} {tg a e:Expr} {ga:Ev->R D} {gl:Ev->R (List D)} {pos:Pos}
end
section
end
section
variable {X:Cx} {elt iter:Expr} {ifs:List Expr} {x:Str} {px pos:Pos} {scope:Scope} {N':List Str} {ix:List Nat} {gi:Ev->R (List D)} {gt:Ev->R Bool} {ge:Ev->R D}
theorem lf (ok:CompOk X scope x N' ix) (hcalm:X.calm=true) (hi:PIF X (.Name x px) iter gi) (he:∀ C K3 K4 fp,PF (bN X N' scope C K3 K4 fp) elt ge) (ht:∀ C K3 K4 fp,PTs (bN X N' scope C K3 K4 fp) ifs gt)
 (hs:∀ x,foldedSetIterable iter X.env x=pure x:=by intro _;rfl):PFL X (.ListComp elt [⟨.Name x px,iter,ifs,0⟩] scope pos) (kJ gi ix gt ge):=by
 walk_at "u"
 intro pins s σ H Q I h
 obtain ⟨G,Z,st,h⟩:=h
 rw [eval_ListComp]
 refine wpAny_comprehension_free (use:=none) rfl hs (fu fun y hy hy2=>I.ok.has y.1 (.inl (ok.fr y hy hy2))) ok.kind ok.names ?_
 have t:tG X (fun G J items=>ItOk X.K G J items) gi σ H (fun J H1=>∃ G1 items,Up G H G1 H1/\StE X.K G1 H1 σ Z/\ItOk X.K G1 J items/\(jp gt ge items (kN ix Z)>>=fun ds=>if ds.length<=sizeLine then R.ok ds else .no).post (xy X.K G H Q) (Exx X σ G H)):=by
  refine ⟨G,Z,st,?_⟩
  unfold kJ at h
  cases e:gi Z with
  | ok items=>rw [e] at h;exact fun J G1 H1 u r=>⟨G1,items,u,st.up u,r,h⟩
  | ex C=>rw [e] at h;exact h
  | no=>rw [e] at h;exact h
 refine thn (hi pins s σ H _ I t) fun v s1 h1=>thn h1 fun itv s2 h2=>?_
 obtain ⟨it,fp,tn,J,H2,e,I2,T,st2,f2,G2,items,u2,sE2,iok,h2⟩:=h2
 subst e
 have h2':(jp gt ge items (kN ix Z)>>=fun ds=>if ds.length<=sizeLine then R.ok ds else .no).post (xy X.K G2 H2 Q) (Exx X σ G2 H2):=
  h2.mono (fun ds q l vs G' H' u hl r=>q l vs G' H' (u2.trans u) hl r) fun C q=>q.up u2
 refine sf (iter:=iter) (pos:=pos) (RR:=fun acc C=>compPost (model X.prog X.w) X.A X.xe none (EP X pins σ Q) acc C) ok hcalm he ht I2 T st2 f2 sE2 iok h2' ?_
 intro Dd C s' m vs G' H' up hd hCD _ q hm hos hb hC hCl un hok
 refine ⟨m,hm,fun h' hs'=>?_⟩
 have I3:=I2.call' (H':=upd H' Dd (.lst vs)) (s':={ s' with heap:=h' }) (ch:=fp) hos (un.sameBut (fun b o hbc e=>hs'.extBut b o hbc e) hCl) (hok.sameBut (fun b o hbc e=>hs'.extBut b o hbc e) (by rw [aL hCD];exact hC)) hb fun b hb'=>by
  obtain ⟨f0,f1,f2',f3,f4,f5⟩:=f2 b hb'
  exact ⟨f3,f1,f4,f5⟩
 exact ⟨.ref Dd,_,I3,rfl,q⟩
end
section
variable {X:Cx} {st:Stmt} {cV body a b:List Stmt} {e c tg:Expr} {g g1 g2:Ev->O} {ga:Ev->R D} {gt:Ev->R Bool} {gl:Ev->R (List D)} {pos:Pos}
end
section
variable {X:Cx} {k:Nat} {f:Addr} {fd:FuncData} {ps:List Str} {x:Str} {p pos:Pos} {e:Expr} {es:List Expr} {gl:Ev->R (List D)} {g:List D->R D}
end
section
theorem Fun.okF {w:World} {K:PySem.W.Frag} {mg:Str->Option Value} {base:Heap} {N:List Str} (F:Fun K x qual st f fd) (S:FnScope N ps (ai st)) {g:Ev->O}
 (hbody:∀ (cdv:Value) (A:Around) (outer:List Env) (s:Shared) (H:Hp) (E:XK),Room k (A.deeper (envOfC qual (ai st) s.heap.objs.size f cdv))->qm (cS (CXo P w) P w K mg base N qual (ai st) f cdv A outer s H E) (bi st) g):FnF P w K mg base (k+1) f fd ps (fun ds=>aK (g (aN N.length ds))):=by
 walk_at "u"
 obtain ⟨oc,od,kV,doc,pm,an,cdv,ct,osl,rfl,lk,hcd⟩:=F.ex
 refine zg lk hcd S (fun vs H Q E h=>h.1) fun A outer s H vs Q E hr hsp=>?_
 obtain ⟨hl,G,ds,sub,r,h⟩:=hsp
 refine ⟨_,hbody cdv A outer s H E hr G H,G,aN N.length ds,pY sub r,?_⟩
 dsimp only at h
 cases q:g (aN N.length ds) with
 | nx Z=>rw [q] at h;exact fun σ G' H' sr=>h .non G' H' sr.up .non
 | rt d=>rw [q] at h;exact fun v G' H' u rv=>h v G' H' u rv
 | re d Z=>rw [q] at h;exact fun v σ G' H' sr rv=>h v G' H' sr.up rv
 | bk Z=>rw [q] at h;exact h.elim
 | ct Z=>rw [q] at h;exact h.elim
 | ex C Z=>rw [q] at h;exact fun e s' fl=>jj fl h
 | no=>rw [q] at h;exact h.elim
end
section
variable {X:Cx}
theorem fH {a b:Expr} {ga:Ev->R D} (ha:PF X a ga) (hb:PF X b gb):PF X (.BinOp a .Mult b pos) (g2 fF ga gb):=by
 with_unfolding_all exact iM Db (Ei _) ha hb
end
section
variable {X:Cx} {e o:Expr} {es:List Expr} {ga gb:Ev->R D} {gl:Ev->R (List D)} {pos:Pos}
theorem Dl {T id:String} {ap cp:Pos} {r:V->List V->Hp->VK->Prop} {f:D->List D->Option D} (pa:PlainAttrs T) (slot:PySem.Slot T name id) (hty:typeOf (.builtin id)=pure (.type "method_descriptor")) (hm:MtR X id r) (hf:DZ X.K T r f) (ho:PF X o ga) (ha:PFA X (e::es) gl)
 (hbase:attributeBase o name X.env (eval o X.env)=eval o X.env:=by rfl)
 (hfew:((backTo cp (starEach (e::es) X.env)).all (fun x=>!x.1) && (backToKw cp (keywordEach [] X.env)).all (fun x=>x.1.isSome)
 && decide ((e::es).length+([]:List Keyword).length+(if ([]:List Keyword).isEmpty then 0 else 1)<30))=true:=by rfl)
 (hline:(ap.endLine==cp.line)=true:=by rfl) (hs:starEach (e::es) X.env=(false,eval e X.env)::starEach es X.env:=by rfl) (hplain:(backTo cp (starEach es X.env)).any (·.1)=false:=by rfl):PF X (.Call (.Attribute o name ap) (e::es) [] cp) (fun Z=>ga Z>>=fun x=>if jr T x=true then gl Z>>=fun ds=>ofO (f x ds) else .no):=by
 with_unfolding_all exact iP pa slot hty hm hf ho ha hbase hfew hline hs hplain
end
section
variable {X:Cx} {e:Expr} {es:List Expr} {ga:Ev->R D} {gl:Ev->R (List D)} {pos:Pos}
end
section
variable {X:Cx} {body suite:List Stmt} {L6:Stmt} {gb gs:Ev->O} {pos hp tp:Pos} {tn nm:Str} {Ct:Addr}
end
section
end
section
variable {X:Cx} {e:Expr} {ga:Ev->R D} {p p2 pos:Pos}
end
section
variable {X:Cx} {st:Stmt} {cV body sa sb:List Stmt} {e a b c o tg:Expr} {es:List Expr} {g gs1 gs2:Ev->O} {ga gb gc:Ev->R D} {gt:Ev->R Bool} {gl:Ev->R (List D)} {pos p p2:Pos} {x:Str}
theorem am (h1:PSF X st gs1) (h2:qm X cV gs2):qm X (st::cV) (aJ gs1 gs2):=by
 with_unfolding_all exact qL h1 h2
theorem aM:qm X [] oNx:=by
 with_unfolding_all exact ua
theorem bu (he:PF X e ga):PSF X (.Return (some e) pos) (cg ga):=by
 with_unfolding_all exact wO he
theorem gX (hc:PB X c gt) (ha:qm X sa gs1) (hb:qm X sb gs2):PSF X (.If c sa sb pos) (oIf gt gs1 gs2):=by
 with_unfolding_all exact xm hc ha hb
theorem Gd (i:Nat) (hN:X.N.Nodup) (he:PFL X e gl) (hi:X.N[i]?=some x:=by rfl) (hx:Loc X.env.scope x:=by first|exact Or.inl rfl|exact Or.inr rfl)
 (hs:swapsWithSole [.Name x p] e pos.line X.env=pure false:=by rfl) (hw:swappedStores [.Name x p] e X.env=pure none:=by rfl) (hf:X.fn x=true\/X.env.scope.names.lookup x=some .local:=by first|exact .inl rfl|exact .inr rfl):PSF X (.Assign [.Name x p] e pos) (Cv i gl):=by
 with_unfolding_all exact wr i hN he hi hx hs hw hf
theorem vG (he:PF X e ga) (hs:swapsWith e none pos.line X.env=pure false:=by rfl):PSF X (.Expr e pos) (wm ga):=by
 with_unfolding_all exact ue he hs
theorem wk (hp:PassesOwn (model X.prog X.w) X.A X.env X.xe) (hcalm:X.calm=true) (hi:PIF X tg iter gi) (hg:PGF X tg asg) (hb:qm X body g)
 (hs:∀ x,foldedSetIterable iter X.env x=pure x:=by intro _;rfl) (hn:∀ d Z C,asg d Z ≠ .ex C:=by intro _ _ _ z;cases z):PSF X (.For tg iter body [] pos) (sv asg gi g):=by
 with_unfolding_all exact wo hp hcalm hi hg hb hs hn
theorem eE (hg:Gl X "len") (hm:X.mg "len"=none) (ha:PFA X [e] gl) (he:starEach [e] X.env=[(false,eval e X.env)]:=by rfl):PF X (.Call (.Name "len" p) [e] [] pos) (gOf eZ gl):=by
 with_unfolding_all exact AQ hg hm ha he
theorem E4 (hc:X.calm=true) (hg:Gl X "all") (hm:X.mg "all"=none) (ha:PFA X [e] gl) (he:starEach [e] X.env=[(false,eval e X.env)]:=by rfl):PF X (.Call (.Name "all" p) [e] [] pos) (gOf DX gl):=by
 with_unfolding_all exact AU hc hg hm ha he
theorem ac (ha:PF X e ga) (hr:PFA X es gl) (hs:starEach (e::es) X.env=(false,eval e X.env)::starEach es X.env:=by rfl):PFA X (e::es) (aa ga gl):=by
 with_unfolding_all exact qq ha hr hs
theorem bd {f:List D->R D} (c:Callee X.prog X.w X.K X.mg X.base x k n f) (hr:Room k X.A) (ha:PFA X (e::es) gl) (hg:Gl X x:=by rfl)
 (hdb:(x==("__debug__":Str))=false:=by decide) (he:starEach (e::es) X.env=(false,eval e X.env)::starEach es X.env:=by rfl) (hpl:(backTo pos (starEach es X.env)).any (·.1)=false:=by rfl):PF X (.Call (.Name x p) (e::es) [] pos) (bf n f gl):=by
 with_unfolding_all exact wJ c hr ha hg hdb he hpl
theorem uL {gens:List Comprehension} {sc:Scope} (h:PFL X (.ListComp e gens sc pos) gl):PF X (.ListComp e gens sc pos) (cQ gl):=by
 with_unfolding_all exact oF h
theorem mT (h:PFL X (.List es pos) gl):PF X (.List es pos) (cQ gl):=by
 with_unfolding_all exact oF h
theorem kI (h:PFA X es gl):PFL X (.List es pos) (sw gl):=by
 with_unfolding_all exact xF h
theorem cz (h:PFA X es gl):PF X (.Tuple es k pos) (aS mkT gl):=by
 with_unfolding_all exact AX h
theorem wn (ha:PF X a ga):PF X (.UnaryOp .USub a pos) (aS uZ ga):=by
 with_unfolding_all exact Ac ha
theorem BM (hm:X.mg "isinstance"=none) (ha:PF X e ga) (hm2:X.mg "int"=none) (hg2:Gl X "int":=by rfl) (hg:Gl X "isinstance":=by rfl) (hs1:starEach [e,.Name "int" p2] X.env=(false,eval e X.env)::starEach [.Name "int" p2] X.env:=by rfl):PF X (.Call (.Name "isinstance" p) [e,.Name "int" p2] [] pos) (aS (lw isInt) ga):=by
 with_unfolding_all exact wc hm ha hm2 hg2 hg hs1
theorem Ah (hm:X.mg "isinstance"=none) (ha:PF X e ga) (hm2:X.mg "bool"=none) (hg2:Gl X "bool":=by rfl) (hg:Gl X "isinstance":=by rfl) (hs1:starEach [e,.Name "bool" p2] X.env=(false,eval e X.env)::starEach [.Name "bool" p2] X.env:=by rfl):PF X (.Call (.Name "isinstance" p) [e,.Name "bool" p2] [] pos) (aS (lw (·=="bool")) ga):=by
 with_unfolding_all exact tm hm ha hm2 hg2 hg hs1
theorem Dr (hm:X.mg "isinstance"=none) (ha:PF X e ga) (hm2:X.mg "str"=none) (hg2:Gl X "str":=by rfl) (hg:Gl X "isinstance":=by rfl) (hs1:starEach [e,.Name "str" p2] X.env=(false,eval e X.env)::starEach [.Name "str" p2] X.env:=by rfl):PF X (.Call (.Name "isinstance" p) [e,.Name "str" p2] [] pos) (aS (lw (·=="str")) ga):=by
 with_unfolding_all exact wv hm ha hm2 hg2 hg hs1
theorem jx (hm:X.mg "isinstance"=none) (ha:PF X e ga) (hm2:X.mg "tuple"=none) (hg2:Gl X "tuple":=by rfl) (hg:Gl X "isinstance":=by rfl) (hs1:starEach [e,.Name "tuple" p2] X.env=(false,eval e X.env)::starEach [.Name "tuple" p2] X.env:=by rfl):PF X (.Call (.Name "isinstance" p) [e,.Name "tuple" p2] [] pos) (aS (lw (·=="tuple")) ga):=by
 with_unfolding_all exact rO hm ha hm2 hg2 hg hs1
theorem ig (h:PF X e ga):PFO X (some e) (jI ga):=by
 with_unfolding_all exact we h
theorem Ey (ha:PF X a ga) (hb:PF X b gb):PB X (.Compare a [.Lt] [b] pos) (gB2 ltD ga gb):=by
 with_unfolding_all exact Cj ha hb
theorem xS (ha:PF X a ga) (hb:PF X b gb):PB X (.Compare a [.Gt] [b] pos) (gB2 gtD ga gb):=by
 with_unfolding_all exact Ds ha hb
theorem fR (hu:X.A.units+64<cLine) (ha:PF X a ga) (hb:PF X b gb):PB X (.Compare a [.Eq] [b] pos) (gB2 eqF ga gb):=by
 with_unfolding_all exact CQ hu ha hb
theorem ml (hu:X.A.units+64<cLine) (ha:PF X a ga) (hb:PF X b gb):PB X (.Compare a [.NotEq] [b] pos) (gB2 neF ga gb):=by
 with_unfolding_all exact B5 hu ha hb
theorem CD (ha:PF X a ga) (hb:PF X b gb) (hc:PF X c gc) (hm:lastMarks [.LtE,.LtE] [b,c]=false:=by with_unfolding_all rfl):PB X (.Compare a [.LtE,.LtE] [b,c] pos) (gB3 leD leD ga gb gc):=by
 with_unfolding_all exact zo ha hb hc hm
theorem gj (ha:PB X a gt):PB X (.UnaryOp .Not a pos) (gBn gt):=by
 with_unfolding_all exact Am ha
theorem ie (h:PF X (.Call a es [] pos) ga):PB X (.Call a es [] pos) (aS nI ga):=by
 with_unfolding_all exact uR h
theorem pF {op:BoolOp} (h:PBW X (.BoolOp op es pos) gt):PB X (.BoolOp op es pos) gt:=by
 walk_at "u"
 exact fun pins s σ H Q I q=>h _ pins s σ H Q I q
theorem A9 (ha:PF X a ga):PIF X tg a (aS kB ga):=by
 with_unfolding_all exact yM ha
theorem eV (hg:Gl X "range") (hm:X.mg "range"=none) (ha:PFA X [a] gl) (hs:starEach [a] X.env=[(false,eval a X.env)]:=by rfl):PIF X tg (.Call (.Name "range" p) [a] [] pos) (aS bp gl):=by
 with_unfolding_all exact rH hg hm ha hs
end
section
variable {X:Cx} {N:List Str} {i:Nat} {x:Str} {pos:Pos}
theorem aj {w:World} {K:PySem.W.Frag} {mg:Str->Option Value} {base:Heap} {A:Around} {outer:List Env} {E:XK} (h:At N i x)
 (hv:Vis (cS CX P w K mg base N qual scope f cdv A outer s H E).env.scope x:=by first|exact Or.inl rfl|exact Or.inr (Or.inl rfl)|exact Or.inr (Or.inr rfl)) (hd:(x==("__debug__":Str))=false:=by decide)
 (hcd:(x==("__classdict__":Str))=false:=by decide):PF (cS CX P w K mg base N qual scope f cdv A outer s H E) (.Name x pos) (fun Z=>rdV Z i):=by
 with_unfolding_all exact kX i h hv hd hcd
theorem eK {K3:Shared} {K4:Hp} (h:At N i x)
 (hv:Vis (bN X N scope C K3 K4 fp).env.scope x:=by first|exact Or.inl rfl|exact Or.inr (Or.inl rfl)|exact Or.inr (Or.inr rfl)) (hd:(x==("__debug__":Str))=false:=by decide)
 (hcd:(x==("__classdict__":Str))=false:=by decide):PF (bN X N scope C K3 K4 fp) (.Name x pos) (fun Z=>rdV Z i):=by
 with_unfolding_all exact kX i h hv hd hcd
theorem cN {w:World} {K:PySem.W.Frag} {mg:Str->Option Value} {base:Heap} {A:Around} {outer:List Env} {E:XK} {e:Expr} {ga:Ev->R D} (h:At N i x) (hN:N.Nodup)
 (he:PF (cS CX P w K mg base N qual scope f cdv A outer s H E) e ga) (hx:Loc (cS CX P w K mg base N qual scope f cdv A outer s H E).env.scope x:=by first|exact Or.inl rfl|exact Or.inr rfl)
 (hs:swapsWithSole [.Name x p] e pos.line (cS CX P w K mg base N qual scope f cdv A outer s H E).env=pure false:=by rfl) (hw:swappedStores [.Name x p] e (cS CX P w K mg base N qual scope f cdv A outer s H E).env=pure none:=by rfl)
 (hf:(cS CX P w K mg base N qual scope f cdv A outer s H E).fn x=true\/(cS CX P w K mg base N qual scope f cdv A outer s H E).env.scope.names.lookup x=some .local:=by first|exact .inl rfl|exact .inr rfl):PSF (cS CX P w K mg base N qual scope f cdv A outer s H E) (.Assign [.Name x p] e pos) (eB i ga):=by
 with_unfolding_all exact zx i hN he h hx hs hw hf
end
section
theorem uM {e:Expr} {ga:Ev->R D} {pt:Pos} (he:PF X e ga) (hc:X.calm=true) (h:Fw X es is) (hn:(assignEach es X.env).length=is.length:=by rfl) (hst:(assignEach es X.env).findIdx? (·.1)=none:=by rfl)
 (hs:swapsWithSole [.Tuple es k pt] e pos.line X.env=pure false:=by rfl) (hw:swappedStores [.Tuple es k pt] e X.env=pure none:=by rfl) (h1:(assignEach [.Tuple es k pt] X.env).map (·.2)=[assign (.Tuple es k pt) X.env]:=by rfl):PSF X (.Assign [.Tuple es k pt] e pos) (D2 (zD is) ga):=by
 with_unfolding_all exact oH he (B7 hc h hn hst) hs hw (xY is) h1
theorem iC {e:Expr} {ga:Ev->R D} {np cp:Pos} (r:Ref x C X.mg X.base) (hh:X.A.handled=none) (ha:PF X e ga) (hg:Gl X x:=by rfl)
 (hdb:(x==("__debug__":Str))=false:=by decide) (hs:starEach [e] X.env=(false,eval e X.env)::starEach [] X.env:=by rfl):PSF X (.Raise (some (.Call (.Name x np) [e] [] cp)) none pos) (hJ C (aa ga fun _=>.ok [])):=by
 walk_at "u"
 obtain ⟨bm,B,newId,initId,Oc,FB⟩:=r.ex
 exact qT Oc FB hh hg (qq ha qI hs) hdb hs (fun Z ds h=>DK h)
end
section
variable {X:Cx} {elt iter:Expr} {ifs:List Expr} {x:Str} {px pos:Pos} {scope:Scope} {N':List Str} {ix:List Nat} {gi:Ev->R (List D)} {gt:Ev->R Bool} {ge:Ev->R D}
theorem CY (i:Nat) {spos:Pos} (hN:X.N.Nodup) (ok:CompOk X scope x N' ix) (hcalm:X.calm=true) (hi:PIF X (.Name x px) iter gi) (he:∀ C K3 K4 fp,PF (bN X N' scope C K3 K4 fp) elt ge) (ht:∀ C K3 K4 fp,PTs (bN X N' scope C K3 K4 fp) ifs gt)
 (hni:X.N[i]?=some y:=by rfl) (hy:X.env.scope.names.lookup y=some .local:=by rfl) (hs:∀ x,foldedSetIterable iter X.env x=pure x:=by intro _;rfl)
 (hsw:swapsWith (.ListComp elt [⟨.Name x px,iter,ifs,0⟩] scope pos) (some (.Name y py)) spos.line X.env=pure true:=by rfl):PSF X (.Assign [.Name y py] (.ListComp elt [⟨.Name x px,iter,ifs,0⟩] scope pos) spos) (Cv i (kJ gi ix gt ge)):=by
 with_unfolding_all exact wg (n:=1) (asg:=jM 0) i hN ok.t hcalm (fun C K3 K4 fp=>dM (X:=bN X N' scope C K3 K4 fp) (pos:=px) 0 ok.nd ok.hd (.inl (lookup_relabel_local ok.loc)) (.inr (lookup_relabel_local ok.loc))) vk hi he ht hni hy hs hsw
end
section
variable {X:Cx} {st:Stmt} {cV body:List Stmt} {e c o:Expr} {es:List Expr} {g:Ev->O} {ga:Ev->R D} {gl:Ev->R (List D)} {pos p p2:Pos}
theorem A0 (i:Nat) {ap cp:Pos} (he:PF X e ga) (hi:X.N[i]?=some x:=by rfl) (hv:Vis X.env.scope x:=by first|exact Or.inl rfl|exact Or.inr (Or.inl rfl))
 (hd:(x==("__debug__":Str))=false:=by decide) (hcd:(x==("__classdict__":Str))=false:=by decide) (hs1:starEach [e] X.env=(false,eval e X.env)::starEach [] X.env:=by rfl)
 (hbase:attributeBase (.Name x p) "extend" X.env (eval (.Name x p) X.env)=eval (.Name x p) X.env:=by rfl)
 (hfew:((backTo cp (starEach [e] X.env)).all (fun x=>!x.1) && (backToKw cp (keywordEach [] X.env)).all (fun x=>x.1.isSome)
 && decide ([e].length+([]:List Keyword).length+(if ([]:List Keyword).isEmpty then 0 else 1)<30))=true:=by rfl)
 (hline:(ap.endLine==cp.line)=true:=by rfl)
 (hs:swapsWith (.Call (.Attribute (.Name x p) "extend" ap) [e] [] cp) none pos.line X.env=pure false:=by rfl):PSF X (.Expr (.Call (.Attribute (.Name x p) "extend" ap) [e] [] cp) pos) (Il i ga):=by
 with_unfolding_all exact pP i he hi hv hd hcd hs1 hbase hfew hline hs
theorem AL (i:Nat) {ap cp:Pos} (he:PF X e ga) (hi:X.N[i]?=some x:=by rfl) (hv:Vis X.env.scope x:=by first|exact Or.inl rfl|exact Or.inr (Or.inl rfl))
 (hd:(x==("__debug__":Str))=false:=by decide) (hcd:(x==("__classdict__":Str))=false:=by decide) (hs1:starEach [e] X.env=(false,eval e X.env)::starEach [] X.env:=by rfl)
 (hbase:attributeBase (.Name x p) "append" X.env (eval (.Name x p) X.env)=eval (.Name x p) X.env:=by rfl)
 (hfew:((backTo cp (starEach [e] X.env)).all (fun x=>!x.1) && (backToKw cp (keywordEach [] X.env)).all (fun x=>x.1.isSome)
 && decide ([e].length+([]:List Keyword).length+(if ([]:List Keyword).isEmpty then 0 else 1)<30))=true:=by rfl)
 (hline:(ap.endLine==cp.line)=true:=by rfl)
 (hs:swapsWith (.Call (.Attribute (.Name x p) "append" ap) [e] [] cp) none pos.line X.env=pure false:=by rfl):PSF X (.Expr (.Call (.Attribute (.Name x p) "append" ap) [e] [] cp) pos) (GG i ga):=by
 with_unfolding_all exact pL i he hi hv hd hcd hs1 hbase hfew hline hs
theorem Hu (i j:Nat) {a b:Expr} {px pt pt2:Pos} {kt k2:Nat} (hc:X.calm=true) (hN:X.N.Nodup) (ha:PFA X [a,b] gl) (hij:i≠j:=by decide) (hi:X.N[i]?=some x:=by rfl) (hj:X.N[j]?=some y:=by rfl)
 (hx:X.env.scope.names.lookup x=some .local:=by rfl) (hy:X.env.scope.names.lookup y=some .local:=by rfl)
 (hw:swappedStores [.Tuple [.Name x px,.Name y py] kt pt] (.Tuple [a,b] k2 pt2) X.env=pure (some [x,y]):=by rfl)
 (hs:swapsWithSole [.Tuple [.Name x px,.Name y py] kt pt] (.Tuple [a,b] k2 pt2) pos.line X.env=pure false:=by rfl):PSF X (.Assign [.Tuple [.Name x px,.Name y py] kt pt] (.Tuple [a,b] k2 pt2) pos) (Gw i j gl):=by
 with_unfolding_all exact wQ i j hc hN ha hij hi hj hx hy hw hs
theorem CS (h:PF X (.Name x pos) ga):PB X (.Name x pos) (aS nI ga):=by
 with_unfolding_all exact uR h
theorem Dp {sts:List Stmt} (i:Nat) (h:qm X sts g):qm X sts (F3 i g):=by
 with_unfolding_all exact sA i h
theorem B6 {ap cp:Pos} (ho:PF X o ga) (ha:PFA X [e] gl) (hbase:attributeBase o "count" X.env (eval o X.env)=eval o X.env:=by rfl)
 (hfew:((backTo cp (starEach [e] X.env)).all (fun x=>!x.1) && (backToKw cp (keywordEach [] X.env)).all (fun x=>x.1.isSome)
 && decide ([e].length+([]:List Keyword).length+(if ([]:List Keyword).isEmpty then 0 else 1)<30))=true:=by rfl)
 (hline:(ap.endLine==cp.line)=true:=by rfl) (hs:starEach [e] X.env=(false,eval e X.env)::starEach [] X.env:=by rfl):PF X (.Call (.Attribute o "count" ap) [e] [] cp) (pN "list" lu ga gl):=by
 with_unfolding_all exact vR ho ha hbase hfew hline hs
theorem BX {ap cp:Pos} (ho:PF X o ga) (ha:PFA X [e] gl) (hbase:attributeBase o "index" X.env (eval o X.env)=eval o X.env:=by rfl)
 (hfew:((backTo cp (starEach [e] X.env)).all (fun x=>!x.1) && (backToKw cp (keywordEach [] X.env)).all (fun x=>x.1.isSome)
 && decide ([e].length+([]:List Keyword).length+(if ([]:List Keyword).isEmpty then 0 else 1)<30))=true:=by rfl)
 (hline:(ap.endLine==cp.line)=true:=by rfl) (hs:starEach [e] X.env=(false,eval e X.env)::starEach [] X.env:=by rfl):PF X (.Call (.Attribute o "index" ap) [e] [] cp) (pN "list" mx ga gl):=by
 with_unfolding_all exact wZ ho ha hbase hfew hline hs
end
section
variable {X:Cx} {e:Expr} {ga:Ev->R D} {p p2 pos:Pos} {rs:List Addr} {ts:List (Str×Addr)}
theorem gC {T:Addr} (Er:Errs X.K X.mg rs ts) (hy:(y,T)∈ts) (hm:X.mg "isinstance"=none) (ha:PF X e ga) (hg:Gl X "isinstance":=by rfl) (hg2:Gl X y:=by rfl) (hd:(y==("__debug__":Str))=false:=by decide)
 (hs1:starEach [e,.Name y p2] X.env=(false,eval e X.env)::starEach [.Name y p2] X.env:=by rfl):PF X (.Call (.Name "isinstance" p) [e,.Name y p2] [] pos) (aS (nG (uh rs T)) ga):=by
 walk_at "u"
 refine rT (v2:=.ref T) (u2:=.ref T) (uh rs T) (fun C b h=>?_) hg hm (tT hg2 (Er.na _ hy) rfl hd) rfl (fun u h=>h) ha hs1
 unfold uh at h
 split at h
 ·rename_i hC
  cases h
  exact ⟨Er.ec _ hC,Er.kit _ hC _ hy⟩
 ·cases h
theorem E0 (Er:Errs X.K X.mg rs ts) (hm:X.mg "isinstance"=none) (hm2:X.mg "ValueError"=none) (ha:PF X e ga) (hg:Gl X "isinstance":=by rfl) (hg2:Gl X "ValueError":=by rfl)
 (hs1:starEach [e,.Name "ValueError" p2] X.env=(false,eval e X.env)::starEach [.Name "ValueError" p2] X.env:=by rfl):PF X (.Call (.Name "isinstance" p) [e,.Name "ValueError" p2] [] pos) (aS (nG (vz rs)) ga):=by
 walk_at "u"
 refine rT (v2:=.ty "ValueError") (u2:=.type "ValueError") (vz rs) (fun C b h=>?_) hg hm (xr hg2 hm2 rfl rfl) rfl (fun u h=>h) ha hs1
 unfold vz at h
 split at h
 ·rename_i hC
  cases h
  exact ⟨Er.ec _ hC,Er.ve _ hC⟩
 ·cases h
end
section
variable {CX:CXT} {P:Program} {w:World} {K:PySem.W.Frag} {mg:Str->Option Value} {base:Heap} {N:List Str} {i:Nat} {x:Str} {qual:Str} {scope:Scope} {f a:Addr} {cdv:Value} {A:Around} {outer:List Env} {s:Shared} {H:Hp} {E:XK} {pn:List (Addr×Obj)} {xe:Value->Shared->Prop} {pos p:Pos} {e:Expr} {ga:Ev->R D}
theorem dY (h:At N i x) (hv:Vis (cS CX P w K mg base N qual scope f cdv A outer s H E).env.scope x:=by first|exact Or.inl rfl|exact Or.inr (Or.inl rfl)|exact Or.inr (Or.inr rfl)) (hd:(x==("__debug__":Str))=false:=by decide)
 (hcd:(x==("__classdict__":Str))=false:=by decide):PF (fq (cS CX P w K mg base N qual scope f cdv A outer s H E) a xe) (.Name x pos) (fun Z=>rdV Z i):=by
 with_unfolding_all exact kX i h hv hd hcd
theorem yS (h:At N i x) (hN:N.Nodup) (he:PF (fq (cS CX P w K mg base N qual scope f cdv A outer s H E) a xe) e ga) (hx:Loc (cS CX P w K mg base N qual scope f cdv A outer s H E).env.scope x:=by first|exact Or.inl rfl|exact Or.inr rfl)
 (hs:swapsWithSole [.Name x p] e pos.line (cS CX P w K mg base N qual scope f cdv A outer s H E).env=pure false:=by rfl) (hw:swappedStores [.Name x p] e (cS CX P w K mg base N qual scope f cdv A outer s H E).env=pure none:=by rfl)
 (hf:(cS CX P w K mg base N qual scope f cdv A outer s H E).fn x=true\/(cS CX P w K mg base N qual scope f cdv A outer s H E).env.scope.names.lookup x=some .local:=by first|exact .inl rfl|exact .inr rfl):PSF (fq (cS CX P w K mg base N qual scope f cdv A outer s H E) a xe) (.Assign [.Name x p] e pos) (eB i ga):=by
 with_unfolding_all exact zx i hN he h hx hs hw hf
end
section
variable {X:Cx} {body suite:List Stmt} {L6:Stmt} {gb gs:Ev->O} {pos hp tp:Pos} {nm:Str} {rs:List Addr} {ts:List (Str×Addr)}
end
section
variable {X:Cx} {st:Stmt} {cV body a b:List Stmt} {e c tg:Expr} {g g1 g2:Ev->O} {ga gb:Ev->R D} {gt:Ev->R Bool} {gl:Ev->R (List D)} {pos:Pos}
theorem zh {a b c:Expr} {ga gc:Ev->R D} (ha:PF X a ga) (hb:PF X b gb) (hc:PF X c gc) (hm:lastMarks [.LtE,.Lt] [b,c]=false:=by with_unfolding_all rfl):PB X (.Compare a [.LtE,.Lt] [b,c] pos) (gB3 leD ltD ga gb gc):=by
 with_unfolding_all exact oC oE xP (wK _) (Cu _) ha hb hc hm
theorem yo {a b:Expr} (hg:Gl X "range") (hm:X.mg "range"=none) (ha:PFA X [a,b] gl) (hs:starEach [a,b] X.env=[(false,eval a X.env),(false,eval b X.env)]:=by rfl) (hs2:starEach [b] X.env=[(false,eval b X.env)]:=by rfl):PIF X tg (.Call (.Name "range" p) [a,b] [] pos) (aS iE gl):=by
 with_unfolding_all exact rm hg hm ha hs hs2
end
section
variable {X:Cx} {e:Expr} {ga:Ev->R D} {p p2 p3 p4 pos:Pos} {k:Nat}
end
section
theorem FK {o e:Expr} {ga:Ev->R D} {ap cp:Pos} (ho:PF X o ga) (ha:PFA X [e] gl) (hbase:attributeBase o "join" X.env (eval o X.env)=eval o X.env:=by rfl)
 (hfew:((backTo cp (starEach [e] X.env)).all (fun x=>!x.1) && (backToKw cp (keywordEach [] X.env)).all (fun x=>x.1.isSome)
 && decide ([e].length+([]:List Keyword).length+(if ([]:List Keyword).isEmpty then 0 else 1)<30))=true:=by rfl)
 (hline:(ap.endLine==cp.line)=true:=by rfl) (hs:starEach [e] X.env=(false,eval e X.env)::starEach [] X.env:=by rfl):PF X (.Call (.Attribute o "join" ap) [e] [] cp) (pN "str" tI ga gl):=by
 with_unfolding_all exact iP PySem.F.plainAttrs_str PySem.F.slot_str_join PySem.F.type_str_join CL (Di _) ho ha hbase hfew hline hs rfl
end
section
variable {X:Cx}
end
section
variable {X:Cx} {a b:Expr} {ga gb:Ev->R D} {elts:List Expr} {kt:Nat} {p pos tp kp:Pos}
end
section
variable {X:Cx} {elt iter tgt:Expr} {ifs:List Expr} {pos:Pos} {scope:Scope} {n:Nat} {N':List Str} {ix:List Nat} {asg:D->Ev->R Ev} {gi:Ev->R (List D)} {gt:Ev->R Bool} {ge:Ev->R D}
end
section
variable {X:Cx}
end
section
variable {X:Cx} {ga:Ev->R D} {gl:Ev->R (List D)} {pos:Pos}
end
section
variable {X:Cx} {a b:Expr} {gl:Ev->R (List D)} {elts:List Expr} {kt:Nat} {p pos tp:Pos}
end
section
variable {X:Cx} {a st:Expr} {ga gs:Ev->R D} {pos p2:Pos}
theorem sZ {e:Expr} (hg:Gl X "int") (hm:X.mg "int"=none) (ha:PFA X [e] gl) (he:starEach [e] X.env=(false,eval e X.env)::starEach [] X.env:=by rfl):PF X (.Call (.Name "int" p) [e] [] pos) (gOf fK gl):=by
 with_unfolding_all exact lK wR (zT _) hg hm PyProof.Rows.Boot.«int» ha (by decide) (by decide) he rfl
end
section
variable {X:Cx} {c e:Expr} {body:List Stmt} {gt:Ev->R Bool} {g:Ev->O} {ga:Ev->R D} {pos:Pos}
end
section
variable {X:Cx} {a b ix e:Expr} {es:List Expr} {ga gb gi:Ev->R D} {gl:Ev->R (List D)} {pos p1 p2 pl sp:Pos}
end
section
variable {X:Cx} {a b:Expr} {ga gb:Ev->R D} {pos:Pos}
theorem zO {z:Str} {l:List Nat} {t:Tok} (hg:Gl X x) (hm:X.mg x=some (.str z t)) (hl:z.cps.toList=l:=by rfl) (hz:l.length<=1000:=by decide) (hd:(x==("__debug__":Str))=false:=by decide):PF X (.Name x pos) (fun _=>.ok (.str l)):=by
 with_unfolding_all exact dS (tT (v:=.str z) hg hm ⟨t,rfl⟩ hd) fun _ _=>.strL hl (Nat.le_trans hz (by decide))
end
section
variable {X:Cx} {a b c e e1 e2 e3 e4 e5:Expr} {ga gb gc g1 g2' g3' g4 g5:Ev->R D} {gl:Ev->R (List D)} {pos p:Pos}
end
section
variable {X:Cx} {a b c e:Expr} {ga:Ev->R D} {gl:Ev->R (List D)} {pos p:Pos} {tg:Expr}
end
section
variable {X:Cx} {elt iter:Expr} {ifs:List Expr} {x:Str} {px pos:Pos} {scope:Scope} {N':List Str} {ix:List Nat} {gi:Ev->R (List D)} {gt:Ev->R Bool} {ge:Ev->R D}
end
section
variable {X:Cx} {a b c:Expr} {gl:Ev->R (List D)} {elts:List Expr} {kt:Nat} {p pos tp:Pos}
end
section
variable {X:Cx} {a b e:Expr} {ga gb:Ev->R D} {gl:Ev->R (List D)} {pos p:Pos}
end
section
end
section
variable {X:Cx} {elt iter:Expr} {ifs:List Expr} {x:Str} {px pos:Pos} {scope:Scope} {N':List Str} {ix:List Nat} {gi:Ev->R (List D)} {gt:Ev->R Bool} {ge:Ev->R D}
end
section
variable {X:Cx} {a b c e ix:Expr} {es:List Expr} {ga gb gi:Ev->R D} {gl:Ev->R (List D)} {pos p p1 p2 p3 pl sp:Pos}
end
section
theorem Fun.okFH {w:World} {K:PySem.W.Frag} {mg:Str->Option Value} {base:Heap} {N:List Str} (F:Fun K x qual st f fd) (S:FnScope N ps (ai st)) {g:Ev->O}
 (hbody:∀ (cdv:Value) (A:Around) (outer:List Env) (s:Shared) (H:Hp) (E:XK) (a:Addr) (xe:Value->Shared->Prop),Room k (A.deeper (envOfC qual (ai st) s.heap.objs.size f cdv))->qm (fq (cS (CXo P w) P w K mg base N qual (ai st) f cdv A outer s H E) a xe) (bi st) g):FnFH P w K mg base (k+1) f fd ps (fun ds=>fN (aK (g (aN N.length ds)))):=by
 walk_at "u"
 obtain ⟨oc,od,kV,doc,pm,an,cdv,ct,osl,rfl,lk,hcd⟩:=F.ex
 refine ⟨fun A a outer s H args us vs Q E hr e0 hb r ⟨hl,G,ds,sub,rp,h⟩=>?_⟩
 have KX:K.In s.heap:=e0.mod.kin.keeps fun b o e=>(e0.bs b o e).1
 have lim:s.heap.NoLimit:=e0.mod.nolimit.keeps fun b o e=>(e0.bs b o e).1
 have hkind:∀ y∈ps.zip us,(ai st).names.lookup y.1=some .local\/((ai st).names.lookup y.1=some .cell/\((cellsFrom (s.heap.objs.size+1) (ai st).names []).lookup y.1).isSome=true):=fun ⟨n,v⟩ hy=>by
  rcases S.par n (List.of_mem_zip hy).1 with q|q
  ·exact .inl q
  ·exact .inr ⟨q,PySem.W.cellsFrom_some _ _ _ (.inl q)⟩
 refine codeAny_call_function (A:=A.mark (some (.ref a))) hr.depth (KX _ _ lk) rfl S.co S.gen rfl (PySem.W.codeRec_of KX hcd) (hb _ _ _ _ ?_)
 refine wpAny_newFunctionEnv_cells S.kind hkind fun env he s1 x=>?_
 subst he
 refine ⟨lim.keeps x.toInCall.keep,codeAny_func ?_⟩
 have I:Inv (cS (CXo P w) P w K mg base N qual (ai st) f cdv A outer s H E) [] (eD N vs) H s1:=ll S hr.hd e0 hl r x
 have J:Inv (fq (cS (CXo P w) P w K mg base N qual (ai st) f cdv A outer s H E) a fun _ _=>False) [] (eD N vs) H s1:=I.cx (fun p q=>q) rfl (fun z=>by cases z)
 refine wpAny_mono (hbody cdv A outer s H E a (fun _ _=>False) (hr.deeper _) G H [] s1 (eD N vs) H { nx:=fun _ H'=>Q .non H',rt:=Q } J ⟨G,aN N.length ds,pY sub rp,?_⟩) (fun fl s' hs=>?_) fun e s' hs=>hs.elim
 ·dsimp only at h
  cases q:g (aN N.length ds) with
  | nx Z=>rw [q] at h;exact fun σ G' H' sr=>h .non G' H' sr.up .non
  | rt d=>rw [q] at h;exact fun v G' H' u rv=>h v G' H' u rv
  | re d Z=>rw [q] at h;exact fun v σ G' H' sr rv=>h v G' H' sr.up rv
  | _=>rw [q] at h;exact h.elim
 ·have fin:∀ {σ':St} {H':Hp} {v:V} {u:Value},Inv (fq (cS (CXo P w) P w K mg base N qual (ai st) f cdv A outer s H E) a fun _ _=>False) [] σ' H' s'->RelV v u->Q v H'->CE outer P w H s Q u s':=
   fun {σ' H' v u} J rv q=>⟨v,H',J.os,J.bare,J.base,J.hok,rv,q⟩
  cases fl with
  | ret u=>
   obtain ⟨v,σ',H',J,rv,q⟩:=hs
   exact fin J rv q
  | next=>
   obtain ⟨σ',H',J,q⟩:=hs
   exact fin (v:=V.non) (u:=Value.none) J rfl q
  | brk=>
   obtain ⟨_,_,_,q⟩:=hs
   exact False.elim q
  | cont=>
   obtain ⟨_,_,_,q⟩:=hs
   exact False.elim q
end
section
variable {Y:Cx} {a:Addr} {xe:Value->Shared->Prop} {k n:Nat} {x:Str} {p pos:Pos} {e:Expr} {es:List Expr} {gl:Ev->R (List D)} {g:List D->R D}
theorem AW (c:CalleeH Y.prog Y.w Y.K Y.mg Y.base x k n g) (hr:Room k Y.A) (ha:PFA (fq Y a xe) (e::es) gl) (hg:Gl Y x:=by rfl)
 (hdb:(x==("__debug__":Str))=false:=by decide) (he:starEach (e::es) Y.env=(false,eval e Y.env)::starEach es Y.env:=by rfl) (hpl:(backTo pos (starEach es Y.env)).any (·.1)=false:=by rfl):PF (fq Y a xe) (.Call (.Name x p) (e::es) [] pos) (bf n g gl):=by
 walk_at "u"
 obtain ⟨f,fd,ps,F,hm,hk,hb,rfl⟩:=c.ex
 intro pins s σ H Q I h
 obtain ⟨G,Z,st,h⟩:=h
 have t:tAF (fq Y a xe) gl σ H (fun vs H1=>∃ G1 ds,Up G H G1 H1/\Same G1 H1/\Reps Y.K G1 vs ds/\ds.length=ps.length/\(g ds).post (Fin G1 H1 (Rep Y.K) Q) (Exx (fq Y a xe) σ G1 H1)):=by
  have h:(gl Z>>=fun ds=>if ds.length=ps.length then g ds else .no).post (Fin G H (Rep Y.K) Q) (Exx (fq Y a xe) σ G H):=h
  refine tG.intro st h fun ds vs G1 H1 u1 st1 r1 h1=>?_
  by_cases hl:ds.length=ps.length
  ·rw [if_pos hl] at h1;exact ⟨G1,ds,u1,st1.sub,r1,hl,h1⟩
  ·rw [if_neg hl] at h1;exact h1.elim
 refine wpAny_Call_Name_kw (fv I hg hm ?_ hdb)
 refine PySem.W.callWith_K (h₀:=Y.base) I.ok.mod.kin hk (thn (ha pos pins s σ H _ I t) fun us s1 q=>⟨?_,?_⟩) he hpl
 ·obtain ⟨vs,H1,I1,r,_⟩:=q;exact I1.kIn
 obtain ⟨vs,H1,I1,r,G1,ds,u1,sub1,rp,hl,h1⟩:=q
 have hvl:vs.length=ps.length:=by rw [rp.length];exact hl
 have hul:(us++[]).length=ps.length:=by rw [List.append_nil,<- r.length];exact hvl
 have hbb:=hb s1 us I1.kIn hul
 rw [List.append_nil] at hbb
 have e0:Env0 Y.prog Y.w Y.K Y.mg Y.base Y.A Y.stack s1 H1:=let z:=I1.env0;⟨z.frames,z.mod,z.bs,z.bsz,z.funs,z.frf,z.hok,z.bare,z.tabs⟩
 refine wpAny_call (codeAny_mono (F.run Y.A a Y.stack s1 H1 ⟨us,[]⟩ us vs Q (fun c _ H'=>∃ C G',c=.ref C/\Up G1 H1 G' H'/\Exx (fq Y a xe) σ G1 H1 C) hr e0 hbb r ⟨hvl,G1,ds,sub1,rp,h1.mono (fun _ q=>q) fun C q G' H' u=>⟨C,G',rfl,u,q⟩⟩) fun r' s' hq=>?_)
 cases r' with
 | error e'=>
  obtain ⟨a',C,H',rfl,fl,C',G',ec,u,q⟩:=hq
  cases ec
  exact q _ _ ⟨G1,H1,.refl sub1,pins,s1,a',rfl,I1,.inr (.inl ⟨G',H',fl,u⟩)⟩
 | ok fl=>
  cases fl with
  | ret u=>exact I1.after hq
  | _=>exact False.elim hq
end
section
end
section
variable {P:Program} {w:World} {K:PySem.W.Frag} {mg:Str->Option Value} {base:Heap} {x y:Str} {st:Stmt} {ft:Addr} {fd:FuncData} {k:Nat} {L6:Stmt} {suite:List Stmt} {p1 p2 p3 tp hp tpos:Pos} {nm tn:Str} {gs:Ev->O} {fe:Addr->Option Bool} {Ct:Addr}
theorem C4 (F:Fun K x x st ft fd) (hm:mg x=some (.ref ft)) (S:FnScope [y,nm] [y] (ai st)) (hbd:bi st=[.Try [.Return (some (.Call (.Name y p1) [] [] p2)) p3] [.ExceptHandler (some (.Name tn tp)) (some nm) (L6::suite) hp] [] [] tpos])
 (hbind:∀ (kV doc pm:Value) (an:Option Addr) (cdv ct:Value) (u:Value),bindArgs (PySem.W.fnOf x x (cB st) (bi st) (ai st) .none kV doc pm an cdv ct) ⟨[u],[]⟩=pure [(y,u)])
 (hh:∀ (cdv:Value) (A:Around) (outer:List Env) (s:Shared) (H:Hp) (E:XK) (a:Addr) (xe:Value->Shared->Prop),Room k (A.deeper (envOfC x (ai st) s.heap.objs.size ft cdv))->qm (fq (cS (CXo P w) P w K mg base [y,nm] x (ai st) ft cdv A outer s H E) a xe) (L6::suite) gs)
 (hf:∀ C,fe C=some true->PySem.W.exmOne K (.ref C) (.ref Ct)=some true) (hg:(ai st).names.lookup tn=some .globalImplicit) (hmt:mg tn=some (.ref Ct)) (hy:(ai st).names.lookup y=some .local) (hx:(ai st).names.lookup nm=some .local)
 (hdb:(tn==("__debug__":Str))=false:=by decide) (hdy:(y==("__debug__":Str))=false:=by decide) (hcy:(y==("__classdict__":Str))=false:=by decide):Told P w K mg base x (k+1) k (fun m=>aK (Bt (fun Z=>m.out Z .rt) gs fe 1 [none,none])):=by
 walk_at "u"
 obtain ⟨oc,od,kV,doc,pm,an,cdv,ct,osl,rfl,lk,hcd⟩:=F.ex
 refine ⟨ft,hm,F.kp,fun A outer s1 G1 H1 f m Q E hr e0 sub dd h=>?_⟩
 refine Ej (us:=[.ref f]) (vs:=[.ref f]) lk hcd S rfl hr e0 (.of_eq (hbind ..)) (.cons rfl .nil) (t:=fun D σ H=>σ[0]?=some (some (.ref f))/\tS (cS (CXo P w) P w K mg base [y,nm] x (ai st) ft cdv A outer s1 H1 E) G1 H1 (Bt (fun Z=>m.out Z .rt) gs fe 1) D σ H) ?_ ⟨rfl,G1,[none,none],⟨⟨sub,rfl,fun i d e=>?_,fun i m C p fs e=>?_⟩,sub,.refl sub,fun i ds e=>?_,fun i j ds es l e=>?_,NoOwn.ob fun i x e=>?_⟩,?_⟩
 ·rw [hbd]
  have hr':=hr.deeper (envOfC x (ai st) s1.heap.objs.size ft cdv)
  refine mU (wF (X:=cS (CXo P w) P w K mg base [y,nm] x (ai st) ft cdv A outer s1 H1 E) (fun σ=>σ[0]?=some (some (.ref f))) 1 fe S.nd rfl rfl rfl S.kind G1 H1 (fun pn xe=>?_) (fun a xe=>hh cdv A outer s1 H1 E a xe hr') hf hg hmt rfl hx hdb)
  refine mU fun pins s σ H D I hq=>?_
  obtain ⟨h0,G,Z,sr,hq⟩:=hq
  have pe:PE (jw (cS (CXo P w) P w K mg base [y,nm] x (ai st) ft cdv A outer s1 H1 E) pn xe) (.Call (.Name y p1) [] [] p2) (fun σ H Q=>σ[0]?=some (some (.ref f))/\∃ G,Up G1 H1 G H/\m.post (Fin G H (Rep K) Q) (Exx (jw (cS (CXo P w) P w K mg base [y,nm] x (ai st) ft cdv A outer s1 H1 E) pn xe) σ G H)):=by
   intro pins s σ H Q I ⟨h0,G,up,hm⟩
   have v:PE (jw (cS (CXo P w) P w K mg base [y,nm] x (ai st) ft cdv A outer s1 H1 E) pn xe) (.Name y p1) (vj 0):=cw rfl (.inl hy) hdy hcy
   refine wpAny_Call_Name_kw (thn (v pins s σ H (fun u H'=>u=.ref f/\H'=H) I ⟨_,h0,rfl,rfl⟩) fun u s' ⟨v',H',I',rv,ev,eh⟩=>?_)
   subst ev eh
   obtain rfl:u=Value.ref f:=rv
   obtain ⟨ob,run⟩:=dd _ pins σ G H' s' _ Q rfl rfl rfl rfl rfl I' hr' I'.base up hm
   exact PySem.W.callWith_of rfl (P:=fun h=>∃ o fd,h.get? f=some o/\o.data=.func fd) (fun h ⟨o,fd,e,d⟩=>⟨.frame,.inl rfl,vB e d⟩) (PyProof.Rows.evalArgs_nil3 ⟨ob,run⟩)
  refine oJ pe pins s σ H D I ⟨h0,G,sr.up,?_⟩
  cases q:m with
  | ok d=>rw [q] at hq;exact fun v G' H' u r=>hq v G' H' (sr.up.trans u) r
  | ex C=>rw [q] at hq;exact Exx.of sr hq
  | no=>rw [q] at hq;exact hq
 ·match i,e with
  | 0,e=>cases e
  | 1,e=>cases e
 ·match i,e with
  | 0,e=>cases e
  | 1,e=>cases e
 ·match i,e with
  | 0,e=>cases e
  | 1,e=>cases e
 ·match i,e with
  | 0,e=>cases e
  | 1,e=>cases e
 ·match i,e with
  | 0,e=>cases e
  | 1,e=>cases e
 ·cases q:Bt (fun Z=>m.out Z .rt) gs fe 1 [none,none] with
  | nx Z=>rw [q] at h;exact fun σ G' H' sr=>h .non G' H' sr.up .non
  | rt d=>rw [q] at h;exact fun v G' H' u rv=>h v G' H' u rv
  | re d Z=>rw [q] at h;exact fun v σ G' H' sr rv=>h v G' H' sr.up rv
  | bk Z=>rw [q] at h;exact h.elim
  | ct Z=>rw [q] at h;exact h.elim
  | ex C Z=>rw [q] at h;exact fun e s' fl=>jj fl h
  | no=>rw [q] at h;exact h.elim
end
section
variable {X:Cx} {scope:Scope} {N':List Str} {ix:List Nat} {params:Arguments} {body:Expr} {lp p pos:Pos} {x:Str} {k j:Nat} {gb:Ev->R D} {g:R D->R D}
end
section
theorem yv {w:World} {K:PySem.W.Frag} {mg:Str->Option Value} {base:Heap} {N:List Str} {cl:List (Str×Addr)} {A:Around} {outer:List Env} {E:XK} (h:At N i x)
 (hv:Vis (sj P w K mg base N qual scope cl f cd A outer s H E).env.scope x:=by first|exact Or.inl rfl|exact Or.inr (Or.inl rfl)|exact Or.inr (Or.inr rfl)) (hd:(x==("__debug__":Str))=false:=by decide)
 (hcd:(x==("__classdict__":Str))=false:=by decide):PF (sj P w K mg base N qual scope cl f cd A outer s H E) (.Name x pos) (fun Z=>rdV Z i):=by
 with_unfolding_all exact kX i h hv hd hcd
theorem Fun.okM {w:World} {K:PySem.W.Frag} {mg:Str->Option Value} {base:Heap} {N:List Str} (Fn:Fun K x qual st f fd) (S:FnScope N ps (ai st)) {g:Ev->O} (ok:ce C g N.length F)
 (hbody:∀ (cdv:Value) (A:Around) (outer:List Env) (s:Shared) (H:Hp) (E:XK),Room k (A.deeper (envOfC qual (ai st) s.heap.objs.size f cdv))->qm (cS (CXo P w) P w K mg base N qual (ai st) f cdv A outer s H E) (bi st) g):FnM P w K mg base (k+1) f fd ps C F:=by
 walk_at "u"
 obtain ⟨oc,od,kV,doc,pm,an,cdv,ct,osl,rfl,lk,hcd⟩:=Fn.ex
 refine zg lk hcd S (fun vs H Q E h=>h.1) fun A outer s H vs Q E hr hsp=>?_
 obtain ⟨hl,G,p,us,ds,fs,ow,rfl,r,sub,og,ob,h⟩:=hsp
 have o:=ok p fs ds
 have rdo:StR K G H G H (eD N (.ref p::us)) (ci false C p fs N.length ds):=gI sub (.refl sub) r (ob.ro H)
 cases q:F fs ds with
 | no=>rw [q] at h;exact h.elim
 | rd d=>
  rw [q] at h o
  refine ⟨_,hbody cdv A outer s H E hr G H,G,_,rdo,?_⟩
  have o:g (ci false C p fs N.length ds)=.rt d:=o
  rw [o]
  exact fun v G' H' u rv=>h v G' H' u rv
 | ex C'=>
  rw [q] at h o
  obtain ⟨Z',o⟩:=o
  refine ⟨_,hbody cdv A outer s H E hr G H,G,_,rdo,?_⟩
  rw [o]
  exact fun e s' fl=>jj fl h
 | ok d fs'=>
  rw [q] at h o
  obtain ⟨Z',e0,o⟩:=o
  obtain ⟨s0,u0⟩:=zB sub og
  refine ⟨_,hbody cdv A outer s H E hr G (hid H ow),G,ci true C p fs N.length ds,gI s0 u0 r (ob.hid true),?_⟩
  have fin:∀ σ G' H',StR K G (hid H ow) G' H' σ Z'->∃ ow',ObjAt K (hid H ow) G' H' ow' 0 true C p fs':=fun σ G' H' sr=>by
   obtain ⟨ow',_,o2⟩:=sr.ob
   exact ⟨ow',(o2 0 true C p fs' e0).2⟩
  rcases o with o|⟨o,rfl⟩
  ·rw [o]
   intro v σ G' H' sr rv
   obtain ⟨ow',z⟩:=fin σ G' H' sr
   exact h v G' H' ow' sr.up z rv
  ·rw [o]
   intro σ G' H' sr
   obtain ⟨ow',z⟩:=fin σ G' H' sr
   exact h .non G' H' ow' sr.up z .non
end
section
variable {X:Cx} {e b:Expr} {es:List Expr} {ga gb:Ev->R D} {gl:Ev->R (List D)} {x f:Str} {i k:Nat} {C:Addr} {ks:List Nat} {p1 p2 p3 pos ap cp:Pos}
theorem yz (i k:Nat) (c:CF X.K C ks) (hk:k∈ks) (hb:PF X b gb) (hi:X.N[i]?=some x:=by rfl) (hv:Vis X.env.scope x:=by first|exact Or.inl rfl|exact Or.inr (Or.inl rfl)|exact Or.inr (Or.inr rfl)) (hf:f=cq k:=by rfl)
 (hd:(x==("__debug__":Str))=false:=by decide) (hcd:(x==("__classdict__":Str))=false:=by decide) (hba:attributeBase (.Name x p1) f X.env (eval (.Name x p1) X.env)=eval (.Name x p1) X.env:=by rfl) (hs:sU b:=by exact fun _ _=>rfl):PF X (.Subscript (.Attribute (.Name x p1) f p2) b pos) (uI C i k gb):=by
 walk_at "u"
 exact fun pins s σ H Q I h=>by
  subst hf
  refine Fe ix_list (rY (cw hi hv hd hcd) hba) hb hs pins s σ H Q I ?_
  obtain ⟨G,Z,st,h⟩:=h
  obtain ⟨m,p,fs,e1,h⟩:=lX h
  obtain ⟨ds,e2,h⟩:=tV h
  obtain ⟨dx,vs,l,ws,h1,h2,h3,h4,h5⟩:=st.fldL e1 e2
  refine ⟨.ref p,h1,p,C,dx,vs,.ref l,rfl,h2,c.cl,(c.na k hk).2,h3,?_⟩
  refine tG.intro st h fun d v G1 H1 u1 st1 r1 h'=>?_
  obtain ⟨d',e3,q⟩:=ofO.ok h'
  cases d with
  | int j=>
   have e3:atI ds j=some d':=e3
   obtain ⟨v',e4,r4⟩:=(h5.mono u1.gg).atI e3
   exact ⟨l,ws,j,v',rfl,r1.int_inv,.of (u1.hh _ _ h4),e4,q v' G1 H1 (.refl st1.sub) r4⟩
  | _=>cases e3
theorem kP (i k:Nat) (c:CF X.K C ks) (hk:k∈ks) (hg:Gl X "len") (hm:X.mg "len"=none) (hi:X.N[i]?=some x:=by rfl) (hv:Vis X.env.scope x:=by first|exact Or.inl rfl|exact Or.inr (Or.inl rfl)|exact Or.inr (Or.inr rfl)) (hf:f=cq k:=by rfl)
 (hd:(x==("__debug__":Str))=false:=by decide) (hcd:(x==("__classdict__":Str))=false:=by decide) (hba:attributeBase (.Name x p1) f X.env (eval (.Name x p1) X.env)=eval (.Name x p1) X.env:=by rfl)
 (he:starEach [.Attribute (.Name x p1) f p2] X.env=(false,eval (.Attribute (.Name x p1) f p2) X.env)::starEach [] X.env:=by rfl):PF X (.Call (.Name "len" p3) [.Attribute (.Name x p1) f p2] [] pos) (jN C i k):=by
 walk_at "u"
 exact fun pins s σ H Q I h=>by
  subst hf
  refine kZ sd hg hm PySem.boot_len (bQ (rY (cw hi hv hd hcd) hba) fE he) (by decide) (by decide) he rfl pins s σ H Q I ?_
  obtain ⟨G,Z,st,h⟩:=h
  obtain ⟨m,p,fs,e1,h⟩:=lX h
  obtain ⟨ds,e2,h⟩:=tV h
  obtain ⟨dx,vs,l,ws,h1,h2,h3,h4,h5⟩:=st.fldL e1 e2
  refine ⟨.ref p,h1,p,C,dx,vs,.ref l,rfl,h2,c.cl,(c.na k hk).2,h3,l,ws,rfl,.inl (.of h4),?_⟩
  rw [h5.length]
  exact h _ G H (.refl st.sub) (.int _)
theorem yE (i k:Nat) (c:CF X.K C ks) (hk:k∈ks) (he:PF X e ga) (hi:X.N[i]?=some x:=by rfl) (hv:Vis X.env.scope x:=by first|exact Or.inl rfl|exact Or.inr (Or.inl rfl)|exact Or.inr (Or.inr rfl)) (hf:f=cq k:=by rfl)
 (hd:(x==("__debug__":Str))=false:=by decide) (hcd:(x==("__classdict__":Str))=false:=by decide) (hba:attributeBase (.Name x p1) f X.env (eval (.Name x p1) X.env)=eval (.Name x p1) X.env:=by rfl)
 (hs1:starEach [e] X.env=(false,eval e X.env)::starEach [] X.env:=by rfl)
 (hbase:attributeBase (.Attribute (.Name x p1) f p2) "append" X.env (eval (.Attribute (.Name x p1) f p2) X.env)=eval (.Attribute (.Name x p1) f p2) X.env:=by rfl)
 (hfew:((backTo cp (starEach [e] X.env)).all (fun x=>!x.1) && (backToKw cp (keywordEach [] X.env)).all (fun x=>x.1.isSome)
 && decide ([e].length+([]:List Keyword).length+(if ([]:List Keyword).isEmpty then 0 else 1)<30))=true:=by rfl)
 (hline:(ap.endLine==cp.line)=true:=by rfl)
 (hs:swapsWith (.Call (.Attribute (.Attribute (.Name x p1) f p2) "append" ap) [e] [] cp) none pos.line X.env=pure false:=by rfl):PSF X (.Expr (.Call (.Attribute (.Attribute (.Name x p1) f p2) "append" ap) [e] [] cp) pos) (yd C i k ga):=by
 walk_at "u"
 exact fun K1 K0 pins s σ H D I h=>by
  subst hf
  refine iw (Ab PySem.F.plainAttrs_list PySem.F.slot_list_append PySem.F.type_list_append nr (rY (cw hi hv hd hcd) hba) (bQ he fE hs1) hbase hfew hline hs1 rfl) hs pins s σ H D I ?_
  obtain ⟨G,Z,sr,h⟩:=h
  obtain ⟨p,fs,e1,h⟩:=iz h
  obtain ⟨ds,e2,h⟩:=uG h
  obtain ⟨dx,vs,l,ws,h1,h2,h3,h4,h5⟩:=sr.e.fldL e1 e2
  refine ⟨.ref p,h1,p,C,dx,vs,.ref l,rfl,h2,c.cl,(c.na k hk).2,h3,.inl ⟨rfl,ws,.of h4⟩,G,Z,sr.e,?_⟩
  cases q:ga Z with
  | ok d=>
   rw [q] at h
   simp only [R.out] at h
   intro v G' H' u r
   by_cases hz:ds.length<sizeLine
   ·rw [if_pos hz] at h
    refine ⟨l,ws,v,rfl,rfl,u.hh _ _ h4,by rw [h5.length];exact hz,h _ G' _ ?_⟩
    exact (sr.ups u).fmut e1 e2 ((h5.mono u.gg).append (.cons r .nil)) (u.hh _ _ h2) h3
   ·rw [if_neg hz] at h;exact h.elim
  | ex C=>rw [q] at h;exact Exx.of sr h
  | no=>rw [q] at h;exact h
theorem BI (i k j:Nat) (c:CF X.K C ks) (hk:k∈ks) (hN:X.N.Nodup) (hi:X.N[i]?=some x:=by rfl) (hj:X.N[j]?=some y:=by rfl) (hv:Vis X.env.scope x:=by first|exact Or.inl rfl|exact Or.inr (Or.inl rfl)|exact Or.inr (Or.inr rfl)) (hf:f=cq k:=by rfl)
 (hx:Loc X.env.scope y:=by first|exact Or.inl rfl|exact Or.inr rfl) (hfn:X.fn y=true\/X.env.scope.names.lookup y=some .local:=by first|exact .inl rfl|exact .inr rfl)
 (hd:(x==("__debug__":Str))=false:=by decide) (hcd:(x==("__classdict__":Str))=false:=by decide) (hba:attributeBase (.Name x p1) f X.env (eval (.Name x p1) X.env)=eval (.Name x p1) X.env:=by rfl)
 (hbase:attributeBase (.Attribute (.Name x p1) f p2) "pop" X.env (eval (.Attribute (.Name x p1) f p2) X.env)=eval (.Attribute (.Name x p1) f p2) X.env:=by rfl) (hline:(ap.endLine==cp.line)=true:=by rfl)
 (hs:swapsWithSole [.Name y py] (.Call (.Attribute (.Attribute (.Name x p1) f p2) "pop" ap) [] [] cp) pos.line X.env=pure false:=by rfl) (hw:swappedStores [.Name y py] (.Call (.Attribute (.Attribute (.Name x p1) f p2) "pop" ap) [] [] cp) X.env=pure none:=by rfl):PSF X (.Assign [.Name y py] (.Call (.Attribute (.Attribute (.Name x p1) f p2) "pop" ap) [] [] cp) pos) (ug C i k j):=by
 walk_at "u"
 exact fun K1 K0 pins s σ H D I h=>by
  subst hf
  refine qB (Fl PySem.F.plainAttrs_list PySem.F.slot_list_pop PySem.F.type_list_pop Gj (rY (cw hi hv hd hcd) hba) hbase hline) (gz (i:=j) hN hj hx hfn) hs hw rfl pins s σ H D I ?_
  obtain ⟨G,Z,sr,h⟩:=h
  obtain ⟨p,fs,e1,h⟩:=iz h
  obtain ⟨ds,e2,h⟩:=uG h
  obtain ⟨dx,vs,l,ws,h1,h2,h3,h4,h5⟩:=sr.e.fldL e1 e2
  cases q:ds.getLast? with
  | none=>rw [q] at h;exact h.elim
  | some d=>
   rw [q] at h
   dsimp only at h
   by_cases nij:i≠j
   ·rw [if_pos nij] at h
    rw [List.getLast?_eq_getElem?] at q
    obtain ⟨v,ev,rv⟩:=h5.get q
    have hl:=h5.length
    refine ⟨.ref p,h1,p,C,dx,vs,.ref l,rfl,h2,c.cl,(c.na k hk).2,h3,.inl ⟨rfl,ws,.of h4⟩,l,ws,v,rfl,rfl,h4,by rw [hl];exact ev,?_⟩
    have rd:Reps X.K G ws.dropLast ds.dropLast:=by
     rw [List.dropLast_eq_take,List.dropLast_eq_take,hl];exact h5.take _
    exact h _ G _ ((sr.fmut e1 e2 rd h2 h3).set rv j)
   ·rw [if_neg nij] at h;exact h.elim
theorem rG (i k:Nat) (c:CF X.K C ks) (hk:k∈ks) (he:PFL X e gl) (hi:X.N[i]?=some x:=by rfl) (hv:Vis X.env.scope x:=by first|exact Or.inl rfl|exact Or.inr (Or.inl rfl)|exact Or.inr (Or.inr rfl)) (hf:f=cq k:=by rfl)
 (hd:(x==("__debug__":Str))=false:=by decide) (hcd:(x==("__classdict__":Str))=false:=by decide) (hs:swapsWith e (some (.Attribute (.Name x p1) f p2)) pos.line X.env=pure false:=by rfl):PSF X (.Assign [.Attribute (.Name x p1) f p2] e pos) (jl C i k gl):=by
 walk_at "u"
 exact fun K1 K0 pins s σ H D I h=>by
  subst hf
  refine EB (cw hi hv hd hcd) he hs pins s σ H D I ?_
  obtain ⟨G,Z,sr,h⟩:=h
  obtain ⟨p,fs,e1,h⟩:=iz h
  refine ⟨G,Z,sr.e,?_⟩
  cases q:gl Z with
  | ok ds=>
   rw [q] at h
   simp only [R.out] at h
   intro l us G' H' u hl r
   obtain ⟨h1,ow,dx,vs,g1,g2,g3,g4,g5,g6,g7,g8⟩:=sr.e.obs i true C p fs e1
   by_cases hz:fs.length<900
   ·rw [if_pos hz] at h
    have hp:=u.hh _ _ g1
    refine ⟨.ref p,h1,p,C,dx,vs,rfl,?_,c.cl,(c.na k hk).2,by rw [g8.len];omega,h _ G' _ ((sr.ups u).fputL e1 (c.na k hk).1 hl r hp)⟩
    rw [aL (fun z=>by rw [z,hl] at hp;cases hp)];exact hp
   ·rw [if_neg hz] at h;exact h.elim
  | ex C=>rw [q] at h;exact Exx.of sr h
  | no=>rw [q] at h;exact h
theorem xZ (he:PF X e ga):PSF X (.Return (some e) pos) (xn ga):=by
 walk_at "u"
 exact fun K1 K0 pins s σ H D I h=>by
  refine oJ he pins s σ H D I ?_
  obtain ⟨G,Z,sr,h⟩:=h
  have h:ke X K1 K0 D ((ga Z).out Z fun d=>.re d Z):=h
  refine ⟨G,Z,sr.e,?_⟩
  cases q:ga Z with
  | ok d=>rw [q] at h;exact fun v G' H' u r=>h v σ G' H' (sr.ups u) r
  | ex C=>rw [q] at h;exact Exx.of sr h
  | no=>rw [q] at h;exact h
end
section
variable {X:Cx} {e:Expr} {es:List Expr} {gl:Ev->R (List D)} {x mn:Str} {i k n:Nat} {C:Addr} {ks:List Nat} {F:MF} {p1 ap pos ep:Pos}
theorem dm {pl:Sem Bool} (i:Nat) (c:CF X.K C ks) (m:MCallee X.prog X.w X.K X.mg X.base C mn k 0 F) (hr:Room k X.A) (hi:X.N[i]?=some x:=by rfl) (hv:Vis X.env.scope x:=by first|exact Or.inl rfl|exact Or.inr (Or.inl rfl)|exact Or.inr (Or.inr rfl))
 (hd:(x==("__debug__":Str))=false:=by decide) (hcd:(x==("__classdict__":Str))=false:=by decide) (hmn:∀ k,k<fnames.length->(mn==cq k)=false:=by decide)
 (ht:eval (.Call (.Attribute (.Name x p1) mn ap) [] [] pos) X.env=(do
 let ov <- eval (.Name x p1) X.env
 standAt ap.atName
 let (f,first) <- holding [ov] (getMethod ov mn pl)
 callWith pos f first (backTo pos (starEach [] X.env)) (backToKw pos (keywordEach [] X.env))):=by rfl):PF X (.Call (.Attribute (.Name x p1) mn ap) [] [] pos) (cP C i F):=by
 walk_at "u"
 exact fun pins s σ H Q I h=>by
  obtain ⟨f,fd,ps,M,hm,hb,hl⟩:=m.ex
  obtain ⟨G,Z,st,h⟩:=h
  obtain ⟨mm,p,fs,e1,h⟩:=lX h
  obtain ⟨h1,ow1,ob1⟩:=st.obs i mm C p fs e1
  have v:PE X (.Name x p1) (vj i):=cw hi hv hd hcd
  refine PySem.W.methodCall_KW (pl:=pl) (thn (v pins s σ H (fun u H'=>u=.ref p/\H'=H) I ⟨_,h1,rfl,rfl⟩) fun u s1 ⟨v',H',I',rv,ev,eh⟩=>?_) ht
  subst ev eh
  obtain rfl:u=Value.ref p:=rv
  obtain ⟨dx,vs,g1,g2,g3,g4,g5,g6,g7,g8⟩:=id ob1
  refine dU I' g1 c.cl hm (g8.none hmn) ?_
  refine PySem.W.callWith_K0 (first:=[.ref p]) I'.kIn hm.kp (jz (us:=[]) M hr hb hl I' .nil .nil rfl st.sub (fun a t q=>(dZ q).2.2.1) ob1.cut ?_)
  cases q:F fs [] with
  | ok d fs'=>rw [q] at h;exact h.elim
  | rd d=>rw [q] at h;exact h
  | ex C'=>rw [q] at h;exact h
  | no=>rw [q] at h;exact h.elim
theorem zp {pl:Sem Bool} (i:Nat) (c:CF X.K C ks) (m:MCallee X.prog X.w X.K X.mg X.base C mn k n F) (hr:Room k X.A) (ha:PFA X (e::es) gl) (hi:X.N[i]?=some x:=by rfl) (hv:Vis X.env.scope x:=by first|exact Or.inl rfl|exact Or.inr (Or.inl rfl)|exact Or.inr (Or.inr rfl))
 (hd:(x==("__debug__":Str))=false:=by decide) (hcd:(x==("__classdict__":Str))=false:=by decide) (hmn:∀ k,k<fnames.length->(mn==cq k)=false:=by decide)
 (hst:starEach (e::es) X.env=(false,eval e X.env)::starEach es X.env:=by rfl) (hpl:(backTo pos (starEach es X.env)).any (·.1)=false:=by rfl)
 (hs:swapsWith (.Call (.Attribute (.Name x p1) mn ap) (e::es) [] pos) none ep.line X.env=pure false:=by rfl)
 (ht:eval (.Call (.Attribute (.Name x p1) mn ap) (e::es) [] pos) X.env=(do
 let ov <- eval (.Name x p1) X.env
 standAt ap.atName
 let (f,first) <- holding [ov] (getMethod ov mn pl)
 callWith pos f first (backTo pos (starEach (e::es) X.env)) (backToKw pos (keywordEach [] X.env))):=by rfl):PSF X (.Expr (.Call (.Attribute (.Name x p1) mn ap) (e::es) [] pos) ep) (zV C i n F gl):=by
 walk_at "u"
 exact fun K1 K0 pins s σ H D I h=>by
  obtain ⟨f,fd,ps,M,hm,hb,hl⟩:=m.ex
  obtain ⟨G,Z,sr,h⟩:=h
  obtain ⟨p,fs,e1,h⟩:=iz h
  obtain ⟨h1,_,_⟩:=sr.e.obs i true C p fs e1
  have v:PE X (.Name x p1) (vj i):=cw hi hv hd hcd
  have pe:PE X (.Call (.Attribute (.Name x p1) mn ap) (e::es) [] pos) (fun σ' H' Q=>σ'=σ/\H'=H/\∀ v H2,D.nx σ H2->Q v H2):=by
   rintro pn2 sh2 σ' H' Q J ⟨rfl,rfl,hQ⟩
   refine PySem.W.methodCall_KW (pl:=pl) (thn (v pn2 sh2 σ' H' (fun u H2=>u=.ref p/\H2=H') J ⟨_,h1,rfl,rfl⟩) fun u s1 ⟨v',H2,I',rv,ev,eh⟩=>?_) ht
   subst ev eh
   obtain rfl:u=Value.ref p:=rv
   obtain ⟨_,ow,dx,vs,g1,g2,g3,g4,g5,g6,g7,g8⟩:=sr.e.obs i true C p fs e1
   refine dU I' g1 c.cl hm (g8.none hmn) ?_
   have t:tAF X gl σ' H2 (fun vs H1=>∃ G1 ds,Up G H2 G1 H1/\Reps X.K G1 vs ds/\ds.length=n/\ke X K1 K0 D ((F fs ds).out C p i Z)):=by
    refine ⟨G,Z,sr.e,?_⟩
    cases q:gl Z with
    | ok ds=>
     rw [q] at h
     simp only [R.out] at h
     intro vs G1 H1 u r
     by_cases hz:ds.length=n
     ·rw [if_pos hz] at h;exact ⟨G1,ds,u,r,hz,h⟩
     ·rw [if_neg hz] at h;exact h.elim
    | ex C=>rw [q] at h;exact Exx.of sr h
    | no=>rw [q] at h;exact h
   refine PySem.W.callWith_K (first:=[.ref p]) (h₀:=X.base) J.ok.mod.kin hm.kp (thn (ha pos pn2 s1 σ' H2 _ I' t) fun us s2 q=>⟨?_,?_⟩) hst hpl
   ·obtain ⟨vs,H1,I1,r,_⟩:=q;exact I1.kIn
   obtain ⟨vs,H1,I1,r,G1,ds,u1,rp,hz,h2⟩:=q
   have sr1:=sr.ups u1
   obtain ⟨ow1,o1,o2⟩:=sr1.ob
   refine jz M hr hb hl I1 r rp hz sr1.e.sub (fun a t q=>(dZ q).2.2.1) (o2 i true C p fs e1).2.cut ?_
   cases q:F fs ds with
   | ok d fs'=>rw [q] at h2;exact fun v G' H' ow' u ob _=>hQ v H' (h2 _ G' H' (sr1.meth e1 o1 o2 u ob))
   | rd d=>rw [q] at h2;exact fun v G' H' u _=>hQ v H' (h2 _ G' H' (sr1.ups u))
   | ex C'=>rw [q] at h2;exact Exx.of sr1 h2
   | no=>rw [q] at h2;exact h2.elim
  exact iw pe hs pins s σ H D I ⟨rfl,rfl,fun v H2 q=>q⟩
theorem kO {pl:Sem Bool} (i:Nat) (c:CF X.K C ks) (m:MCallee X.prog X.w X.K X.mg X.base C mn k 0 F) (hr:Room k X.A) (hi:X.N[i]?=some x:=by rfl) (hv:Vis X.env.scope x:=by first|exact Or.inl rfl|exact Or.inr (Or.inl rfl)|exact Or.inr (Or.inr rfl))
 (hd:(x==("__debug__":Str))=false:=by decide) (hcd:(x==("__classdict__":Str))=false:=by decide) (hmn:∀ k,k<fnames.length->(mn==cq k)=false:=by decide)
 (hs:swapsWith (.Call (.Attribute (.Name x p1) mn ap) [] [] pos) none ep.line X.env=pure false:=by rfl)
 (ht:eval (.Call (.Attribute (.Name x p1) mn ap) [] [] pos) X.env=(do
 let ov <- eval (.Name x p1) X.env
 standAt ap.atName
 let (f,first) <- holding [ov] (getMethod ov mn pl)
 callWith pos f first (backTo pos (starEach [] X.env)) (backToKw pos (keywordEach [] X.env))):=by rfl):PSF X (.Expr (.Call (.Attribute (.Name x p1) mn ap) [] [] pos) ep) (fW C i F):=by
 walk_at "u"
 exact fun K1 K0 pins s σ H D I h=>by
  obtain ⟨f,fd,ps,M,hm,hb,hl⟩:=m.ex
  obtain ⟨G,Z,sr,h⟩:=h
  obtain ⟨p,fs,e1,h⟩:=iz h
  have h:ke X K1 K0 D ((F fs []).out C p i Z):=h
  obtain ⟨h1,_,_⟩:=sr.e.obs i true C p fs e1
  have v:PE X (.Name x p1) (vj i):=cw hi hv hd hcd
  have pe:PE X (.Call (.Attribute (.Name x p1) mn ap) [] [] pos) (fun σ' H' Q=>σ'=σ/\H'=H/\∀ v H2,D.nx σ H2->Q v H2):=by
   rintro pn2 sh2 σ' H' Q J ⟨rfl,rfl,hQ⟩
   refine PySem.W.methodCall_KW (pl:=pl) (thn (v pn2 sh2 σ' H' (fun u H2=>u=.ref p/\H2=H') J ⟨_,h1,rfl,rfl⟩) fun u s1 ⟨v',H2,I',rv,ev,eh⟩=>?_) ht
   subst ev eh
   obtain rfl:u=Value.ref p:=rv
   obtain ⟨ow1,o1,o2⟩:=sr.ob
   obtain ⟨dx,vs,g1,g2,g3,g4,g5,g6,g7,g8⟩:=(o2 i true C p fs e1).2
   refine dU I' g1 c.cl hm (g8.none hmn) ?_
   refine PySem.W.callWith_K0 (first:=[.ref p]) I'.kIn hm.kp (jz (us:=[]) M hr hb hl I' .nil .nil rfl sr.e.sub (fun a t q=>(dZ q).2.2.1) (o2 i true C p fs e1).2.cut ?_)
   cases q:F fs [] with
   | ok d fs'=>rw [q] at h;exact fun v G' H' ow' u ob _=>hQ v H' (h _ G' H' (sr.meth e1 o1 o2 u ob))
   | rd d=>rw [q] at h;exact fun v G' H' u _=>hQ v H' (h _ G' H' (sr.ups u))
   | ex C'=>rw [q] at h;exact Exx.of sr h
   | no=>rw [q] at h;exact h.elim
  exact iw pe hs pins s σ H D I ⟨rfl,rfl,fun v H2 q=>q⟩
end
section
variable {X:Cx} {e:Expr} {es:List Expr} {gl:Ev->R (List D)} {cn:Str} {k n:Nat} {C:Addr} {F:MF} {p pos:Pos}
end
section
variable {X:Cx} {st:Stmt} {cV:List Stmt} {g1:Ev->O} {gs:Ev->O} {α:Type} {g2:α->Ev->O} {e:Expr} {es:List Expr} {gl gl':Ev->R (List D)} {cn:Str} {k n:Nat} {C:Addr} {F:MF} {p pos:Pos}
theorem B8 (h:qm X cV gs):zQ X cV (CN gs):=by
 walk_at "u"
 exact fun K1 K0 pins s σ H D I ⟨G,Z,sr,q⟩=>h K1 K0 pins s σ H D I ⟨G,Z,sr,q ()⟩
theorem oT [Inhabited α] (h1:PSF X st g1) (h2:zQ X cV g2):zQ X (st::cV) (vU g1 g2):=by
 walk_at "u"
 exact fun K1 K0 pins s σ H D I h=>by
  refine gQ (h1 K1 K0) (h2 K1 K0) pins s σ H D I ?_
  obtain ⟨G,Z,sr,h⟩:=h
  have h:∀ q,ke X K1 K0 D ((g1 Z).seq (g2 q)):=h
  refine ⟨G,Z,sr,?_⟩
  cases q:g1 Z with
  | nx Z'=>rw [q] at h;exact fun σ' G' H' sr'=>⟨G',Z',sr',h⟩
  | rt d=>rw [q] at h;exact h default
  | re d Z'=>rw [q] at h;exact h default
  | bk Z'=>rw [q] at h;exact h default
  | ct Z'=>rw [q] at h;exact h default
  | ex C Z'=>rw [q] at h;exact h default
  | no=>rw [q] at h;exact h default
end
section
end
section
variable {X:Cx} {e a b c:Expr} {cV:List Expr} {g g1 g2:Ev->O} {ga gb:Ev->R D} {gt:Ev->R Bool} {pos:Pos} {s1 s2:List Stmt} {h1 h2:Ev->O}
theorem HA (h:PB X e gt):PBX X e (Bx gt):=by
 walk_at "u"
 exact fun K1 K0 pins s σ H Q I ⟨G,Z,sr,q⟩=>by
  refine h pins s σ H Q I (tX.read sr (fun d e v G1 H1 u s1 r=>?_) (fun C e=>?_) fun e=>?_)
  ·unfold Bx at q;rw [e] at q
   obtain ⟨k,ek,q⟩:=q
   cases ek;subst r
   exact q G1 H1 s1
  ·unfold Bx at q;rw [e] at q;exact q
  ·unfold Bx at q;rw [e] at q;exact q
theorem Hs (h:PFX X e g):PSF X (.Return (some e) pos) (CU g):=by
 walk_at "u"
 exact fun K1 K0 pins s σ H D I ⟨G,Z,sr,q⟩=>by
  refine oJ (h K1 K0) pins s σ H D I ⟨G,Z,sr,?_⟩
  unfold CU at q
  cases e:g Z with
  | re d Z'=>rw [e] at q;exact fun v G' H' s' r=>q v σ G' H' s' r
  | ex C Z'=>rw [e] at q;exact q
  | _=>rw [e] at q;exact q.elim
theorem JJ (hc:PB X c gt) (ha:PFX X a g1) (hb:PFX X b g2):PFX X (.IfExp c a b pos) (xIf gt g1 g2):=by
 walk_at "u"
 exact fun K1 K0 pins s σ H Q I ⟨G,Z,sr,q⟩=>by
  refine uK hc (ha K1 K0) (hb K1 K0) pins s σ H Q I (tX.read sr (fun k e v G1 H1 u s1 r=>?_) (fun C e=>?_) fun e=>?_)
  ·unfold xIf at q;rw [e] at q
   subst r
   cases v with
   | true=>exact ⟨G1,Z,s1,q⟩
   | false=>exact ⟨G1,Z,s1,q⟩
  ·unfold xIf at q;rw [e] at q;exact q
  ·unfold xIf at q;rw [e] at q;exact q
theorem Em (hu:X.A.units+64<cLine) (ha:PFX X a g) (hb:PF X b gb):PBX X (.Compare a [.NotEq] [b] pos) (xE neF g gb):=by
 with_unfolding_all exact zN (yR hu) (xJ _ true) ha hb (ic _)
theorem DP (ha:PBX X a g):ES X (.BoolOp .Or [a] pos) g:=by
 walk_at "u"
 exact fun K1 K0=>A7 (ha K1 K0)
theorem ET (ha:PBX X a g1) (hb:ES X (.BoolOp .Or (b::cV) pos) g2):ES X (.BoolOp .Or (a::b::cV) pos) (xOr g1 g2):=by
 walk_at "u"
 exact fun K1 K0 whole pins s σ H Q I ⟨G,Z,sr,q⟩=>by
  refine EE (ha K1 K0) (hb K1 K0) whole pins s σ H Q I ⟨G,Z,sr,?_⟩
  unfold xOr at q
  cases e:g1 Z with
  | re d Z'=>
   rw [e] at q
   cases d <;> first|exact q.elim|skip
   rename_i k
   refine ⟨k,rfl,fun G1 H1 s1=>?_⟩
   cases k with
   | true=>obtain ⟨k,ek,q⟩:=q;cases ek;exact q G1 H1 s1
   | false=>exact ⟨G1,Z',s1,q⟩
  | ex C Z'=>rw [e] at q;exact q
  | _=>rw [e] at q;exact q.elim
theorem Fr {op:BoolOp} (h:ES X (.BoolOp op es pos) g):PBX X (.BoolOp op es pos) g:=by
 walk_at "u"
 exact fun K1 K0=>(h K1 K0).pt
theorem Eb (hc:PBX X c g) (ha:qm X s1 h1) (hb:qm X s2 h2):PSF X (.If c s1 s2 pos) (zG g h1 h2):=by
 walk_at "u"
 exact fun K1 K0 pins s σ H D I ⟨G,Z,sr,q⟩=>by
  refine Fg (hc K1 K0) (ha K1 K0) (hb K1 K0) pins s σ H D I ⟨G,Z,sr,?_⟩
  unfold zG at q
  cases e:g Z with
  | re d Z'=>
   rw [e] at q
   cases d <;> first|exact q.elim|skip
   rename_i k
   refine ⟨k,rfl,fun G1 H1 s1=>?_⟩
   cases k with
   | true=>exact ⟨G1,Z',s1,q⟩
   | false=>exact ⟨G1,Z',s1,q⟩
  | ex C Z'=>rw [e] at q;exact q
  | _=>rw [e] at q;exact q.elim
end
section
variable {X:Cx} {e:Expr} {es:List Expr} {gl:Ev->R (List D)} {x y mn:Str} {i k n:Nat} {C:Addr} {ks:List Nat} {F:MF} {p1 ap pos ep:Pos}
theorem BJ {pl:Sem Bool} (i:Nat) (c:CF X.K C ks) (m:MCallee X.prog X.w X.K X.mg X.base C mn k n F) (hr:Room k X.A) (ha:PFA X (e::es) gl) (hi:X.N[i]?=some x:=by rfl) (hv:Vis X.env.scope x:=by first|exact Or.inl rfl|exact Or.inr (Or.inl rfl)|exact Or.inr (Or.inr rfl))
 (hd:(x==("__debug__":Str))=false:=by decide) (hcd:(x==("__classdict__":Str))=false:=by decide) (hmn:∀ k,k<fnames.length->(mn==cq k)=false:=by decide)
 (hst:starEach (e::es) X.env=(false,eval e X.env)::starEach es X.env:=by rfl) (hpl:(backTo pos (starEach es X.env)).any (·.1)=false:=by rfl)
 (ht:eval (.Call (.Attribute (.Name x p1) mn ap) (e::es) [] pos) X.env=(do
 let ov <- eval (.Name x p1) X.env
 standAt ap.atName
 let (f,first) <- holding [ov] (getMethod ov mn pl)
 callWith pos f first (backTo pos (starEach (e::es) X.env)) (backToKw pos (keywordEach [] X.env))):=by rfl):PFX X (.Call (.Attribute (.Name x p1) mn ap) (e::es) [] pos) (dR C i n F gl):=by
 walk_at "u"
 exact fun K1 K0 pins s σ H Q I h=>by
  obtain ⟨f,fd,ps,M,hm,hb,hl⟩:=m.ex
  obtain ⟨G,Z,sr,h⟩:=h
  obtain ⟨mm,p,fs,e1,h⟩:=sy h
  obtain ⟨h1,_⟩:=sr.e.obs i mm C p fs e1
  have v:PE X (.Name x p1) (vj i):=cw hi hv hd hcd
  refine PySem.W.methodCall_KW (pl:=pl) (thn (v pins s σ H (fun u H'=>u=.ref p/\H'=H) I ⟨_,h1,rfl,rfl⟩) fun u s1 ⟨v',H',I',rv,ev,eh⟩=>?_) ht
  subst ev eh
  obtain rfl:u=Value.ref p:=rv
  obtain ⟨_,ow,dx,vs,g1,g2,g3,g4,g5,g6,g7,g8⟩:=sr.e.obs i mm C p fs e1
  refine dU I' g1 c.cl hm (g8.none hmn) ?_
  have t:tAF X gl σ H' (fun vs H1=>∃ G1 ds,StR X.K K1 K0 G1 H1 σ Z/\Reps X.K G1 vs ds/\ds.length=n/\rE X K1 K0 σ Q ((F fs ds).outX mm C p i Z)):=
   Bj sr h fun vs G1 H1 ds s1 r hz h=>⟨G1,ds,s1,r,hz,h⟩
  refine PySem.W.callWith_K (first:=[.ref p]) (h₀:=X.base) I.ok.mod.kin hm.kp (thn (ha pos pins s1 σ H' _ I' t) fun us s2 q=>⟨?_,?_⟩) hst hpl
  ·obtain ⟨vs,H1,I1,r,_⟩:=q;exact I1.kIn
  obtain ⟨vs,H1,I1,r,G1,ds,s2,rp,hz,h2⟩:=q
  exact jY M hr hb hl I1 r rp hz s2 e1 h2
theorem Ci {pl:Sem Bool} (i:Nat) (c:CF X.K C ks) (m:MCallee X.prog X.w X.K X.mg X.base C mn k 0 F) (hr:Room k X.A) (hi:X.N[i]?=some x:=by rfl) (hv:Vis X.env.scope x:=by first|exact Or.inl rfl|exact Or.inr (Or.inl rfl)|exact Or.inr (Or.inr rfl))
 (hd:(x==("__debug__":Str))=false:=by decide) (hcd:(x==("__classdict__":Str))=false:=by decide) (hmn:∀ k,k<fnames.length->(mn==cq k)=false:=by decide)
 (ht:eval (.Call (.Attribute (.Name x p1) mn ap) [] [] pos) X.env=(do
 let ov <- eval (.Name x p1) X.env
 standAt ap.atName
 let (f,first) <- holding [ov] (getMethod ov mn pl)
 callWith pos f first (backTo pos (starEach [] X.env)) (backToKw pos (keywordEach [] X.env))):=by rfl):PFX X (.Call (.Attribute (.Name x p1) mn ap) [] [] pos) (dR C i 0 F fun _=>.ok []):=by
 walk_at "u"
 exact fun K1 K0 pins s σ H Q I h=>by
  obtain ⟨f,fd,ps,M,hm,hb,hl⟩:=m.ex
  obtain ⟨G,Z,sr,h⟩:=h
  obtain ⟨mm,p,fs,e1,h⟩:=sy h
  have h:rE X K1 K0 σ Q ((F fs []).outX mm C p i Z):=h
  obtain ⟨h1,_⟩:=sr.e.obs i mm C p fs e1
  have v:PE X (.Name x p1) (vj i):=cw hi hv hd hcd
  refine PySem.W.methodCall_KW (pl:=pl) (thn (v pins s σ H (fun u H'=>u=.ref p/\H'=H) I ⟨_,h1,rfl,rfl⟩) fun u s1 ⟨v',H',I',rv,ev,eh⟩=>?_) ht
  subst ev eh
  obtain rfl:u=Value.ref p:=rv
  obtain ⟨_,ow,dx,vs,g1,g2,g3,g4,g5,g6,g7,g8⟩:=sr.e.obs i mm C p fs e1
  refine dU I' g1 c.cl hm (g8.none hmn) ?_
  exact PySem.W.callWith_K0 (first:=[.ref p]) I'.kIn hm.kp (jY (us:=[]) M hr hb hl I' .nil .nil rfl sr e1 h)
end
section
variable {X:Cx} {es:List Expr} {gl:Ev->R (List D)} {x y:Str} {i k n:Nat} {C:Addr} {F:MF} {p1 py pos:Pos}
theorem Bd (i:Nat) (c:CalleeM X.prog X.w X.K X.mg X.base C x k n F) (hr:Room k X.A) (ha:PFA X es gl) (hi:X.N[i]?=some y:=by rfl) (hv:Vis X.env.scope y:=by first|exact Or.inl rfl|exact Or.inr (Or.inl rfl)|exact Or.inr (Or.inr rfl))
 (hd:(y==("__debug__":Str))=false:=by decide) (hcd:(y==("__classdict__":Str))=false:=by decide) (hg:Gl X x:=by rfl) (hdb:(x==("__debug__":Str))=false:=by decide)
 (hst:starEach (.Name y py::es) X.env=(false,eval (.Name y py) X.env)::starEach es X.env:=by rfl) (hpl:(backTo pos (starEach es X.env)).any (·.1)=false:=by rfl):PFX X (.Call (.Name x p1) (.Name y py::es) [] pos) (dR C i n F gl):=by
 walk_at "u"
 exact fun K1 K0 pins s σ H Q I h=>by
  obtain ⟨f,fd,ps,M,hm,hk,hb,hl⟩:=c.ex
  obtain ⟨G,Z,sr,h⟩:=h
  obtain ⟨mm,p,fs,e1,h⟩:=sy h
  obtain ⟨h1,_⟩:=sr.e.obs i mm C p fs e1
  have v:PE X (.Name y py) (vj i):=cw hi hv hd hcd
  refine wpAny_Call_Name_kw (fv I hg hm ?_ hdb)
  have t:pX (vj i) (tAF X gl) σ H (fun vs H1=>∃ ws G1 ds,vs=.ref p::ws/\StR X.K K1 K0 G1 H1 σ Z/\Reps X.K G1 ws ds/\ds.length=n/\rE X K1 K0 σ Q ((F fs ds).outX mm C p i Z)):=
   ⟨_,h1,Bj sr h fun vs G1 H1 ds s1 r hz h=>⟨vs,G1,ds,rfl,s1,r,hz,h⟩⟩
  refine PySem.W.callWith_K (h₀:=X.base) I.ok.mod.kin hk (thn (bQ v ha hst pos pins s σ H _ I t) fun us s2 q=>⟨?_,?_⟩) hst hpl
  ·obtain ⟨vs,H1,I1,r,_⟩:=q;exact I1.kIn
  obtain ⟨vs,H1,I1,r,ws,G1,ds,rfl,s2,rp,hz,h2⟩:=q
  cases r with
  | cons ru r=>
   obtain rfl:=ru
   exact jY M hr hb hl I1 r rp hz s2 e1 h2
theorem mX (i:Nat) (c:CalleeM X.prog X.w X.K X.mg X.base C x k n F) (hr:Room k X.A) (ha:PFA X es gl) (hi:X.N[i]?=some y:=by rfl) (hv:Vis X.env.scope y:=by first|exact Or.inl rfl|exact Or.inr (Or.inl rfl)|exact Or.inr (Or.inr rfl))
 (hd:(y==("__debug__":Str))=false:=by decide) (hcd:(y==("__classdict__":Str))=false:=by decide) (hg:Gl X x:=by rfl) (hdb:(x==("__debug__":Str))=false:=by decide)
 (hst:starEach (.Name y py::es) X.env=(false,eval (.Name y py) X.env)::starEach es X.env:=by rfl) (hpl:(backTo pos (starEach es X.env)).any (·.1)=false:=by rfl):PF X (.Call (.Name x p1) (.Name y py::es) [] pos) (hV C i n F gl):=by
 walk_at "u"
 exact fun pins s σ H Q I h=>by
  obtain ⟨f,fd,ps,M,hm,hk,hb,hl⟩:=c.ex
  obtain ⟨G,Z,st,h⟩:=h
  obtain ⟨mm,p,fs,e1,h⟩:=lX h
  obtain ⟨h1,_⟩:=st.obs i mm C p fs e1
  have v:PE X (.Name y py) (vj i):=cw hi hv hd hcd
  refine wpAny_Call_Name_kw (fv I hg hm ?_ hdb)
  have t:pX (vj i) (tAF X gl) σ H (fun vs H1=>∃ ws G1 ds,vs=.ref p::ws/\StE X.K G1 H1 σ Z/\Reps X.K G1 ws ds/\ds.length=n/\((F fs ds).read).post (Fin G1 H1 (Rep X.K) Q) (Exx X σ G1 H1)):=by
   refine ⟨_,h1,tG.intro st h fun ds vs G1 H1 u1 st1 r1 h1=>?_⟩
   by_cases hz:ds.length=n
   ·rw [if_pos hz] at h1;exact ⟨vs,G1,ds,rfl,st1,r1,hz,h1⟩
   ·rw [if_neg hz] at h1;exact h1.elim
  refine PySem.W.callWith_K (h₀:=X.base) I.ok.mod.kin hk (thn (bQ v ha hst pos pins s σ H _ I t) fun us s2 q=>⟨?_,?_⟩) hst hpl
  ·obtain ⟨vs,H1,I1,r,_⟩:=q;exact I1.kIn
  obtain ⟨vs,H1,I1,r,ws,G1,ds,rfl,st1,rp,hz,h2⟩:=q
  cases r with
  | cons ru r=>
   obtain rfl:=ru
   obtain ⟨_,ow1,ob1⟩:=st1.obs i mm C p fs e1
   refine jz M hr hb hl I1 r rp hz st1.sub (fun a t q=>(dZ q).2.2.1) ob1.cut ?_
   cases q:F fs ds with
   | ok d fs'=>rw [q] at h2;exact h2.elim
   | rd d=>rw [q] at h2;exact h2
   | ex C'=>rw [q] at h2;exact h2
   | no=>rw [q] at h2;exact h2.elim
end
section
variable {X:Cx} {scope:Scope} {N':List Str} {ix:List Nat} {params:Arguments} {body:Expr} {lp p pos:Pos} {x:Str} {k j i:Nat} {C:Addr} {gb:Ev->O} {g:R D->R D}
theorem BC (i:Nat) (T:Told X.prog X.w X.K X.mg X.base x k (j+1) g) (T':ToldOk X.prog X.w X.K X.mg X.base x k (j+1)) (hr:Room k X.A) (L:LamAt X) (ok:LamOk X scope N' (i::ix))
 (hb:∀ (cl:List (Str×Addr)) (f:Addr) (cd:Value) (A:Around) (outer:List Env) (s:Shared) (H:Hp) (E:XK),Room j (A.deeper (PySem.W.envX (X.env.qual++"<lambda>") scope s.heap.objs.size f cd cl))->PFX (sj X.prog X.w X.K X.mg X.base N' (X.env.qual++"<lambda>") scope cl f cd A outer s H E) body gb)
 (hp:∀ cl pm cd ctv,bindArgs (PySem.W.kla_fn "<lambda>" (X.env.qual++"<lambda>") params body scope cl pm cd ctv) ⟨[],[]⟩=pure []:=by intros;rfl) (hdef:defaultsOf params X.env=([],[]):=by rfl)
 (hg:Gl X x:=by rfl) (hdb:(x==("__debug__":Str))=false:=by decide) (he:starEach [.Lambda params body scope lp] X.env=(false,eval (.Lambda params body scope lp) X.env)::starEach [] X.env:=by rfl):PFX X (.Call (.Name x p) [.Lambda params body scope lp] [] pos) (pv g C i ix gb):=by
 walk_at "u"
 exact fun K1 K0 pins s σ H Q I h=>by
  obtain ⟨ft,hm,hk,run⟩:=T.ex
  obtain ⟨ft',hm',hk',run'⟩:=T'.ex
  have ef:ft'=ft:=by rw [hm] at hm';injection (Option.some.inj hm').symm
  subst ef
  obtain ⟨c,P,q,hc,hcd,hT,rfl,hbm,hgP⟩:=L.ex
  obtain ⟨G,Z,sr,h⟩:=h
  obtain ⟨p0,fs,e1,h⟩:=zU h
  dsimp only at h
  refine wpAny_Call_Name_kw (fv I hg hm ?_ hdb)
  refine PySem.W.callWith_K (h₀:=X.base) I.ok.mod.kin hk ?_ he rfl
  rw [he]
  show wpAny _ _ (spliced ((false,eval (.Lambda params body scope lp) X.env)::backTo pos (starEach [] X.env))) _ _ s
  obtain ⟨more,hTH⟩:=I.ok.tabs.un I.base P _ hT
  refine Calls.spliced_cons (zM I hdef hc (hcd _ I.kIn) hTH ?_ (hbm.keeps I.bk) ok.fr hgP fun f cd ctv pm H1 s1 L=>Calls.spliced_nil ⟨L.inv.kIn,?_⟩)
  ·unfold yD
   rw [Array.toList_append]
   rfl
  have sub:Same G H1:=sr.e.sub.trans L.hh
  have up:Up G H G H1:=⟨sub,.refl _,L.hh,fun a o h=>.inl h⟩
  have sr1:=sr.ups up
  have deed:∀ (Y:Cx) (pinsY:List (Addr×Obj)) (σY:St) (G2 H2:Hp) (s2:Shared) (fs2:List Addr) (K7:Hp) (m:Bool) (ow:jF) (Q':VK) (E:XK),Y.prog=X.prog->Y.w=X.w->Y.K=X.K->Y.mg=X.mg->Y.base=X.base->Inv Y pinsY σY H2 s2->Room (j+1) Y.A->Un fs2 [] H1 H2 s1.heap s2.heap->Up G H1 G2 H2->
    Same G2 K7->Up G2 K7 G2 H2->ObjAt X.K K7 G2 H2 ow 0 m C p0 fs->
    (∀ A,rE (sj Y.prog Y.w Y.K Y.mg Y.base N' (X.env.qual++"<lambda>") scope (oG X.env scope.names []) f cd A Y.stack s2 H2 E) G2 K7 (cu 0 (i::ix) σ) Q' (gb (some (.obj m C p0 fs)::cf 0 ix Z)))->
    (∃ o fd,s2.heap.get? f=some o/\o.data=.func fd)/\wpAny (model Y.prog Y.w) Y.A (call (.ref f) []) (EP Y pinsY σY Q') (fun e s'=>CXo Y.prog Y.w Y.stack H2 s2 E e s') s2:=by
   rintro Y pinsY σY G2 H2 s2 fs2 K7 m ow Q' E e1' e2' e3' e4' e5' J hrY un up2 s0 u0 ob hq
   obtain ⟨sl,hf2⟩:=un.any L.fn L.free (by simp)
   refine ⟨⟨_,_,hf2,rfl⟩,?_⟩
   have code:s2.heap.CodeRec cd (X.env.qual++"<lambda>"):=by
    obtain ⟨c,oc,vs,t,u,rfl,e,d,q⟩:=L.codeH
    obtain ⟨e2,_⟩:=J.hok c _ (up2.hh _ _ e)
    exact ⟨c,oc,vs,t,rfl,e2,d,q⟩
   have sr2:=sr1.ups up2
   have st3:StR X.K G2 K7 G2 H2 (cu 0 (i::ix) σ) (some (.obj m C p0 fs)::cf 0 ix Z):=yQ sr2.e ix (sr2.e.obs i true C p0 fs e1).1 s0 u0 ob
   have hbb:=hb (oG X.env scope.names []) f cd Y.A Y.stack s2 H2 E (hrY.deeper _)
   rw [<- e1',<- e2',<- e3',<- e4',<- e5'] at hbb
   rw [<- e3'] at st3
   exact AS (te:=tX _ G2 K7 gb) J hrY hf2 rfl code (hp _ _ _ _) ok.co ok.gen ((BO ok L.inv).un un) (hbb G2 K7) ⟨G2,_,st3,hq Y.A⟩
  have caseA:∀ m:R D,(∀ (Y:Cx) (A:Around) (G2 H2:Hp) (s2:Shared) (Q':VK) (σY:St) (E:XK),(∀ C,m=.ex C->∀ G' H',Up G2 H2 G' H'->E (.ref C) none H')->(∀ d,m=.ok d->∀ v G' H',Up G2 H2 G' H'->Rep Y.K G' v d->Q' v H')->
     rE (sj Y.prog Y.w Y.K Y.mg Y.base N' (X.env.qual++"<lambda>") scope (oG X.env scope.names []) f cd A Y.stack s2 H2 E) G2 H2 (cu 0 (i::ix) σ) Q' (gb (some (.obj false C p0 fs)::cf 0 ix Z)))->m ≠ .no->
    rE X K1 K0 σ Q ((g m).out Z fun d=>.re d Z)->wpAny (model X.prog X.w) X.A (call (.ref ft') [.ref f]) (EP X pins σ Q) X.xe s1:=by
   intro m hm1 hmn hq
   have dd:Bu X.prog X.w X.K X.mg X.base (j+1) s1 G H1 f m:=by
    intro Y pinsY σY G2 H2 s2 fs2 Q' e1' e2' e3' e4' e5' J hrY un up2 hpost
    obtain ⟨ow2,o1,o2⟩:=(sr1.ups up2).ob
    have z:=deed Y pinsY σY G2 H2 s2 fs2 H2 false _ Q' (fun c _ H'=>∃ C G',c=.ref C/\Up G2 H2 G' H'/\Exx Y σY G2 H2 C) e1' e2' e3' e4' e5' J hrY un up2 up2.sub (.refl up2.sub) ((o2 i true C p0 fs e1).2.cut.ro H2) (fun A=>hm1 Y A G2 H2 s2 Q' σY _ (fun C e G' H' u=>⟨C,G',rfl,u,by rw [e] at hpost;exact hpost⟩) (fun d e v G' H' u r=>by rw [e] at hpost;exact hpost v G' H' u r))
    refine ⟨z.1,wpAny_mono z.2 (fun _ _ q=>q) fun e s' hq=>?_⟩
    obtain ⟨a,C,H',rfl,fl,C',G',ec,u,q⟩:=hq
    cases ec
    exact q _ _ ⟨G2,H2,.refl up2.sub,pinsY,s2,a,rfl,J,.inr (.inl ⟨G',H',fl,u⟩)⟩
   have h1:(g m).post (Fin G H1 (Rep X.K) Q) (fun C=>∀ G' H',Up G H1 G' H'->∃ C' G',Value.ref C=.ref C'/\Up G H1 G' H'/\Exx X σ G H1 C'):=by
    cases q:g m with
    | ok d=>rw [q] at hq;exact fun v G' H' u r=>hq v G' H' (sr1.ups u) r
    | ex C=>rw [q] at hq;exact fun G' H' u=>⟨C,G',rfl,u,Exx.fly sr1 hq⟩
    | no=>rw [q] at hq;exact hq.elim
   refine wpAny_call (codeAny_mono (run X.A X.stack s1 G H1 f m Q (fun c _ H'=>∃ C G',c=.ref C/\Up G H1 G' H'/\Exx X σ G H1 C) hr L.inv.env0 sub dd h1) fun r' s' hq=>?_)
   cases r' with
   | error e'=>
    obtain ⟨a,C,H',rfl,fl,C',G',ec,u,q⟩:=hq
    cases ec
    exact q _ _ ⟨G,H1,.refl sub,pins,s1,a,rfl,L.inv,.inr (.inl ⟨G',H',fl,u⟩)⟩
   | ok fl=>
    cases fl with
    | ret u=>exact L.inv.after hq
    | _=>exact False.elim hq
  have caseB:rE X K1 K0 σ Q (ka C p0 i Z (gb (some (.obj true C p0 fs)::cf 0 ix Z)))->wpAny (model X.prog X.w) X.A (call (.ref ft') [.ref f]) (EP X pins σ Q) X.xe s1:=by
   intro hq
   obtain ⟨d,Z',fs',eg,e0,hq⟩:∃ d Z' fs',gb (some (.obj true C p0 fs)::cf 0 ix Z)=.re d Z'/\DY C p0 Z'=some fs'/\rE X K1 K0 σ Q (.re d (Z.set i (some (.obj true C p0 fs')))):=by
    cases q:gb (some (.obj true C p0 fs)::cf 0 ix Z) with
    | re d Z'=>
     rw [q] at hq
     cases q0:DY C p0 Z' with
     | some fs'=>simp only [ka,q0] at hq;exact ⟨d,Z',fs',rfl,q0,hq⟩
     | none=>simp only [ka,q0] at hq;exact hq.elim
    | _=>rw [q] at hq;exact hq.elim
   have dd:BA X.prog X.w X.K X.mg X.base (j+1) s1 G H1 f Q:=by
    intro Y pinsY σY G2 H2 s2 fs2 e1' e2' e3' e4' e5' J hrY un up2
    have sr2:=sr1.ups up2
    obtain ⟨ow2,o1,o2⟩:=sr2.ob
    obtain ⟨s0,u0⟩:=zB (H:=H2) (ow:=nF i true K0 G2 H2 ow2) sr2.e.sub fun a t q=>(dZ q).2.2.1
    have z:=deed Y pinsY σY G2 H2 s2 fs2 (hid H2 (nF i true K0 G2 H2 ow2)) true _ Q (fun _ _ _=>False) e1' e2' e3' e4' e5' J hrY un up2 s0 u0 ((o2 i true C p0 fs e1).2.cut.hid true) (fun A=>by
     rw [eg]
     intro v G' H' srl rv
     have srl:StR Y.K _ _ _ _ _ _:=srl
     have rv:Rep Y.K G' v d:=rv
     rw [e3'] at srl rv
     obtain ⟨ow',_,o2'⟩:=srl.ob
     exact hq v G' H' (sr2.meth e1 o1 o2 srl.up (o2' 0 true C p0 fs' (DD e0)).2) rv)
    refine ⟨z.1,wpAny_mono z.2 (fun _ _ q=>q) fun e s' hq=>?_⟩
    obtain ⟨a,C,H',rfl,fl,zz⟩:=hq
    exact zz.elim
   refine wpAny_call (codeAny_mono (run' X.A X.stack s1 G H1 f Q (fun _ _ _=>False) hr L.inv.env0 sub dd) fun r' s' hq=>?_)
   cases r' with
   | error e'=>
    obtain ⟨a,C,H',rfl,fl,zz⟩:=hq
    exact zz.elim
   | ok fl=>
    cases fl with
    | ret u=>exact L.inv.after hq
    | _=>exact False.elim hq
  cases q:gb (some (.obj false C p0 fs)::cf 0 ix Z) with
  | re d Z'=>
   rw [q] at h
   refine caseA (.ok d) (fun Y A G2 H2 s2 Q' σY E h1 h2=>?_) (by intro z;cases z) h
   rw [q]
   exact fun v G' H' srl rv=>h2 d rfl v G' H' srl.up rv
  | ex E Z'=>
   rw [q] at h
   refine caseA (.ex E) (fun Y A G2 H2 s2 Q' σY E' h1 h2=>?_) (by intro z;cases z) h
   rw [q]
   exact fun e s' fl=>zv rfl rfl fl fun G' H' u'=>h1 E rfl G' H' u'
  | nx Z'=>rw [q] at h;exact caseB h
  | rt d=>rw [q] at h;exact caseB h
  | bk Z'=>rw [q] at h;exact caseB h
  | ct Z'=>rw [q] at h;exact caseB h
  | no=>rw [q] at h;exact caseB h
end
section
variable {X:Cx} {a b:Expr} {cV:List Expr} {g g1 g2:Ev->O} {gb:Ev->R D} {pos:Pos}
end
section
theorem Fun.okAT {w:World} {K:PySem.W.Frag} {mg:Str->Option Value} {base:Heap} {N:List Str} {α:Type} (F:Fun K x qual st f fd) (LB:LamB K mg base qual fd Pt) (S:FnScope N ps (ai st)) {g:α->Ev->O} {gr:List D->R D}
 (hg:∀ ds,ds.length=ps.length->gr ds=.no\/∀ q,aK (g q (aN N.length ds))=gr ds)
 (hbody:∀ (cdv:Value) (A:Around) (outer:List Env) (s:Shared) (H:Hp) (E:XK),Room k (A.deeper (envOfC qual (ai st) s.heap.objs.size f cdv))->LamAt (cS (CXo P w) P w K mg base N qual (ai st) f cdv A outer s H E)->zQ (cS (CXo P w) P w K mg base N qual (ai st) f cdv A outer s H E) (bi st) g):FnF P w K mg base (k+1) f fd ps gr:=by
 walk_at "u"
 obtain ⟨oc,od,kV,doc,pm,an,cdv,ct,osl,rfl,lk,hcd⟩:=F.ex
 refine zg lk hcd S (fun vs H Q E h=>h.1) fun A outer s H vs Q E hr hsp=>?_
 obtain ⟨hl,G,ds,sub,r,h⟩:=hsp
 have la:LamAt (cS (CXo P w) P w K mg base N qual (ai st) f cdv A outer s H E):=by
  obtain ⟨c,ec,hd⟩:=LB.ld.ex
  exact ⟨c,Pt,_,ec,hd,LB.tb,rfl,LB.bm,LB.ld.ne⟩
 refine ⟨_,hbody cdv A outer s H E hr la G H,G,aN N.length ds,pY sub r,fun q0=>?_⟩
 rcases hg ds (by rw [<- r.length];exact hl) with z|z
 ·rw [z] at h;exact h.elim
 ·rw [<- z q0] at h
  cases q:g q0 (aN N.length ds) with
  | nx Z=>rw [q] at h;exact fun σ G' H' sr=>h .non G' H' sr.up .non
  | rt d=>rw [q] at h;exact fun v G' H' u rv=>h v G' H' u rv
  | re d Z=>rw [q] at h;exact fun v σ G' H' sr rv=>h v G' H' sr.up rv
  | bk Z=>rw [q] at h;exact h.elim
  | ct Z=>rw [q] at h;exact h.elim
  | ex C Z=>rw [q] at h;exact fun e s' fl=>jj fl h
  | no=>rw [q] at h;exact h.elim
theorem Fun.okMT {w:World} {K:PySem.W.Frag} {mg:Str->Option Value} {base:Heap} {N:List Str} (Fn:Fun K x qual st f fd) (LB:LamB K mg base qual fd Pt) (S:FnScope N ps (ai st)) {g:Ev->O} (ok:ce C g N.length F)
 (hbody:∀ (cdv:Value) (A:Around) (outer:List Env) (s:Shared) (H:Hp) (E:XK),Room k (A.deeper (envOfC qual (ai st) s.heap.objs.size f cdv))->LamAt (cS (CXo P w) P w K mg base N qual (ai st) f cdv A outer s H E)->qm (cS (CXo P w) P w K mg base N qual (ai st) f cdv A outer s H E) (bi st) g):FnM P w K mg base (k+1) f fd ps C F:=by
 walk_at "u"
 obtain ⟨oc,od,kV,doc,pm,an,cdv,ct,osl,rfl,lk,hcd⟩:=Fn.ex
 refine zg lk hcd S (fun vs H Q E h=>h.1) fun A outer s H vs Q E hr hsp=>?_
 obtain ⟨hl,G,p,us,ds,fs,ow,rfl,r,sub,og,ob,h⟩:=hsp
 have o:=ok p fs ds
 have la:LamAt (cS (CXo P w) P w K mg base N qual (ai st) f cdv A outer s H E):=by
  obtain ⟨c,ec,hd⟩:=LB.ld.ex
  exact ⟨c,Pt,_,ec,hd,LB.tb,rfl,LB.bm,LB.ld.ne⟩
 have rdo:StR K G H G H (eD N (.ref p::us)) (ci false C p fs N.length ds):=gI sub (.refl sub) r (ob.ro H)
 cases q:F fs ds with
 | no=>rw [q] at h;exact h.elim
 | rd d=>
  rw [q] at h o
  refine ⟨_,hbody cdv A outer s H E hr la G H,G,_,rdo,?_⟩
  have o:g (ci false C p fs N.length ds)=.rt d:=o
  rw [o]
  exact fun v G' H' u rv=>h v G' H' u rv
 | ex C'=>
  rw [q] at h o
  obtain ⟨Z',o⟩:=o
  refine ⟨_,hbody cdv A outer s H E hr la G H,G,_,rdo,?_⟩
  rw [o]
  exact fun e s' fl=>jj fl h
 | ok d fs'=>
  rw [q] at h o
  obtain ⟨Z',e0,o⟩:=o
  obtain ⟨s0,u0⟩:=zB sub og
  refine ⟨_,hbody cdv A outer s H E hr la G (hid H ow),G,ci true C p fs N.length ds,gI s0 u0 r (ob.hid true),?_⟩
  have fin:∀ σ G' H',StR K G (hid H ow) G' H' σ Z'->∃ ow',ObjAt K (hid H ow) G' H' ow' 0 true C p fs':=fun σ G' H' sr=>by
   obtain ⟨ow',_,o2⟩:=sr.ob
   exact ⟨ow',(o2 0 true C p fs' e0).2⟩
  rcases o with o|⟨o,rfl⟩
  ·rw [o]
   intro v σ G' H' sr rv
   obtain ⟨ow',z⟩:=fin σ G' H' sr
   exact h v G' H' ow' sr.up z rv
  ·rw [o]
   intro σ G' H' sr
   obtain ⟨ow',z⟩:=fin σ G' H' sr
   exact h .non G' H' ow' sr.up z .non
end
section
variable {X:Cx} {cV:List Stmt} {α:Type} {g2:α->Ev->O} {e e3:Expr} {es:List Expr} {gl gl':Ev->R (List D)} {ga:Ev->R D} {cn:Str} {k n:Nat} {C:Addr} {F:MF} {pos:Pos}
end
section
theorem Fc {e:Expr} {g:Ev->O} (h:PFX X e g) (hs:swapsWith e none pos.line X.env=pure false:=by rfl):PSF X (.Expr e pos) (qy g):=by
 walk_at "u"
 exact fun K1 K0 pins s σ H D I ⟨G,Z,sr,q⟩=>by
  refine iw (h K1 K0) hs pins s σ H D I ⟨G,Z,sr,?_⟩
  unfold qy at q
  cases e:g Z with
  | re d Z'=>rw [e] at q;exact fun v G' H' s' r=>q σ G' H' s'
  | ex C Z'=>rw [e] at q;exact q
  | _=>rw [e] at q;exact q.elim
end
section
variable {X:Cx} {e:Expr} {ga:Ev->R D} {gl:Ev->R (List D)}
end
section
variable {X:Cx} {e o:Expr} {ga:Ev->R D} {gl:Ev->R (List D)}
end
section
variable {X:Cx} {a:Expr} {ga gb:Ev->R D} {scope:Scope} {N':List Str} {ix:List Nat} {params:Arguments} {body:Expr} {lp p pos kp:Pos} {x:Str} {j:Nat}
end
section
variable {X:Cx} {a b:Expr} {gl:Ev->R (List D)} {p p2 pos pos2:Pos}
end
section
variable {X:Cx} {scope:Scope} {N':List Str} {ix:List Nat} {params:Arguments} {body:Expr} {x:Str} {j:Nat} {pins:List (Addr×Obj)} {σ:St} {H0 G:Hp} {Ii S l f:Addr} {qual:Str} {cl:List (Str×Addr)} {pm cd ctv:Value} {σ':St} {Z':Ev} {gb:Ev->R D} {vs:List V} {dd:D} {Rr:Result->Shared->Prop}
end
section
variable {X:Cx} {scope:Scope} {N':List Str} {ix:List Nat} {params:Arguments} {body:Expr} {x:Str} {j:Nat} {pins:List (Addr×Obj)} {σ:St} {H G:Hp} {l f:Addr} {qual:Str} {cl:List (Str×Addr)} {pm cd ctv:Value} {σ':St} {Z':Ev} {gb:Ev->R D} {vr:List V} {v0:V} {d0 dd:D} {ds ks:List D} {kb:List Int} {s:Shared} {o:Obj} {Q:VK}
end
section
variable {X:Cx} {a:Expr} {ga gb:Ev->R D} {scope:Scope} {N':List Str} {ix:List Nat} {params:Arguments} {body:Expr} {lp p pos kp:Pos} {x:Str} {j:Nat}
end
section
variable {X:Cx} {pins:List (Addr×Obj)} {σ:St} {H G:Hp} {Ii S l:Addr} {vs:List V} {dd:D} {Rr:Result->Shared->Prop}
end
section
variable {X:Cx} {e o:Expr} {ga:Ev->R D} {gl:Ev->R (List D)}
end
section
variable {X:Cx} {a:Expr} {gl:Ev->R (List D)} {p p2 pos pos2:Pos}
end
section
variable {X:Cx} {elt iter:Expr} {ifs:List Expr} {x:Str} {px pos:Pos} {scope:Scope} {gi:Ev->R (List D)} {gt:Ev->R Bool} {ge:Ev->R D}
end
section
variable {X:Cx} {x f:Str} {p1 p2 p3 pos:Pos} {C:Addr} {ks:List Nat}
theorem nh (i k:Nat) (c:CF X.K C ks) (hk:k∈ks) (hg:Gl X "list") (hm:X.mg "list"=none) (hi:X.N[i]?=some x:=by rfl) (hv:Vis X.env.scope x:=by first|exact Or.inl rfl|exact Or.inr (Or.inl rfl)|exact Or.inr (Or.inr rfl)) (hf:f=cq k:=by rfl)
 (hd:(x==("__debug__":Str))=false:=by decide) (hcd:(x==("__classdict__":Str))=false:=by decide) (hba:attributeBase (.Name x p1) f X.env (eval (.Name x p1) X.env)=eval (.Name x p1) X.env:=by rfl)
 (he:starEach [.Attribute (.Name x p1) f p2] X.env=(false,eval (.Attribute (.Name x p1) f p2) X.env)::starEach [] X.env:=by rfl):PFL X (.Call (.Name "list" p3) [.Attribute (.Name x p1) f p2] [] pos) (nW C i k):=by
 walk_at "u"
 exact fun pins s σ H Q I ⟨G,Z,st,h⟩=>by
  subst hf
  refine sg ss hg hm PyProof.Rows.Boot.«list» (bQ (rY (cw hi hv hd hcd) hba) fE he) (by decide) (by decide) he rfl pins s σ H Q I ?_
  obtain ⟨m,p,fs,e1,h⟩:=lX h
  obtain ⟨ds,e2,h⟩:=tV h
  obtain ⟨dx,vs,l,ws,h1,h2,h3,h4,h5⟩:=st.fldL e1 e2
  exact ⟨.ref p,h1,p,C,dx,vs,.ref l,rfl,h2,c.cl,(c.na k hk).2,h3,l,ws,rfl,.inl (.of h4),fun b hb=>h b ws G H (.refl st.sub) hb h5⟩
end
section
variable {X:Cx} {st:Stmt} {cV:List Stmt} {g1:Ev->O} {α:Type} {g2:α->Ev->Option (Addr×List (Nat×Fd))} {e:Expr} {es:List Expr} {gl:Ev->R (List D)} {cn:Str} {k n j:Nat} {C:Addr} {F:MF} {p pos:Pos}
theorem Fv (hi:X.N[j]?=some y:=by rfl) (hv:Vis X.env.scope y:=by first|exact Or.inl rfl|exact Or.inr (Or.inl rfl)|exact Or.inr (Or.inr rfl)) (hd:(y==("__debug__":Str))=false:=by decide) (hcd:(y==("__classdict__":Str))=false:=by decide):Dt X C j [.Return (some (.Name y py)) pos] (Hi C j):=by
 walk_at "u"
 exact fun K1 K0 pins s σ H D I ⟨G,Z,sr,h⟩=>by
  obtain ⟨x,fs,e1,h⟩:=h ()
  unfold Hi at e1
  split at e1
  ·rename_i C' x' fs' e2
   split at e1
   ·rename_i z
    subst z
    cases e1
    exact mU (oJ (cw hi hv hd hcd)) pins s σ H D I ⟨_,(sr.e.obs j true _ x fs e2).1,h σ G H Z sr e2⟩
   ·cases e1
  ·cases e1
theorem yC [Inhabited α] (h1:PSF X st g1) (h2:Dt X C j cV g2):Dt X C j (st::cV) (D0 g1 g2):=by
 walk_at "u"
 exact fun K1 K0 pins s σ H D I ⟨G,Z,sr,h⟩=>by
  refine gQ (h1 K1 K0) (h2 K1 K0) pins s σ H D I ⟨G,Z,sr,?_⟩
  unfold D0 at h
  cases q:g1 Z with
  | nx Z'=>rw [q] at h;exact fun σ' G' H' sr'=>⟨G',Z',sr',h⟩
  | _=>rw [q] at h;obtain ⟨x,fs,e1,_⟩:=h default;cases e1
theorem EH [Inhabited α] (i:Nat) (c:MkC X.prog X.w X.K X.mg X.base C cn k n F) (hr:Room (k+1) X.A) (hN:X.N.Nodup) (ha:PFA X (e::es) gl) (h2:Dt X C j cV g2) (hi:X.N[i]?=some y:=by rfl) (hx:Loc X.env.scope y:=by first|exact Or.inl rfl|exact Or.inr rfl)
 (hg:Gl X cn:=by rfl) (hdb:(cn==("__debug__":Str))=false:=by decide) (he:starEach (e::es) X.env=(false,eval e X.env)::starEach es X.env:=by rfl) (hpl:(backTo p (starEach es X.env)).any (·.1)=false:=by rfl) {pos':Pos}
 (hw:swappedStores [.Name y py] (.Call (.Name cn pos) (e::es) [] p) X.env=pure none:=by rfl) (hf:X.fn y=true\/X.env.scope.names.lookup y=some .local:=by first|exact .inl rfl|exact .inr rfl)
 (hs:swapsWithSole [.Name y py] (.Call (.Name cn pos) (e::es) [] p) pos'.line X.env=pure false:=by rfl):Dt X C j (.Assign [.Name y py] (.Call (.Name cn pos) (e::es) [] p) pos'::cV) (Gx C i F n gl g2):=by
 walk_at "u"
 exact fun K1 K0 pins s σ H D I ⟨G,Z,sr,h⟩=>by
  refine gQ (qB (vc c hr ha hg hdb he hpl) (gz (i:=i) hN hi hx hf) hs hw rfl) (h2 K1 K0) pins s σ H D I ⟨G,Z,sr.e,?_⟩
  unfold Gx at h
  cases q:gl Z>>=yf F n with
  | ok fs=>rw [q] at h;exact fun x G' H' ow' u ob=>⟨G',_,sr.setObj u ob i,fun q2=>h (x,q2)⟩
  | _=>rw [q] at h;obtain ⟨x,fs,e1,_⟩:=h (0,default);cases e1
end
section
theorem Fun.okT {w:World} {K:PySem.W.Frag} {mg:Str->Option Value} {base:Heap} {N:List Str} {α:Type} {F:TF} (Fn:Fun K x qual st f fd) (S:FnScope N ps (ai st))
 {g:Addr×α->Ev->Option (Addr×List (Nat×Fd))} (ok:∀ p fs fs',F fs=some fs'->∀ q:Addr×α,g q (ci false C p fs N.length [])=some (q.1,fs'))
 (hbody:∀ (cdv:Value) (A:Around) (outer:List Env) (s:Shared) (H:Hp) (E:XK),Room k (A.deeper (envOfC qual (ai st) s.heap.objs.size f cdv))->Dt (cS (CXo P w) P w K mg base N qual (ai st) f cdv A outer s H E) C j (bi st) g):FnT P w K mg base (k+1) f fd ps C F:=by
 walk_at "u"
 obtain ⟨oc,od,kV,doc,pm,an,cdv,ct,osl,rfl,lk,hcd⟩:=Fn.ex
 refine zg lk hcd S (fun vs H Q E h=>h.1) fun A outer s H vs Q E hr hsp=>?_
 obtain ⟨hl,G,p,fs,ow,rfl,sub,og,ob,fs',e1,h⟩:=hsp
 refine ⟨_,hbody cdv A outer s H E hr G H,G,ci false C p fs N.length [],gI (us:=[]) sub (.refl sub) .nil (ob.ro H),fun q=>⟨q.1,fs',ok p fs fs' e1 q,fun σ' G' H' Z' sr e2=>?_⟩⟩
 obtain ⟨ow',_,o2⟩:=sr.ob
 exact h q.1 G' H' _ sr.up ((o2 j true C q.1 fs' e2).2.retag 0)
end
section
variable {X:Cx} {x mn:Str} {p1 ap pos:Pos} {C:Addr} {ks:List Nat} {k:Nat} {F:TF}
theorem BN {α:Type} [Inhabited α] {pl:Sem Bool} {cV:List Stmt} {g2:α->Ev->O} (i j:Nat) {pos':Pos} (c:CF X.K C ks) (t:TCallee X.prog X.w X.K X.mg X.base C mn k F) (hr:Room k X.A) (hN:X.N.Nodup) (h2:zQ X cV g2)
 (hi:X.N[i]?=some x:=by rfl) (hj:X.N[j]?=some y:=by rfl) (hv:Vis X.env.scope x:=by first|exact Or.inl rfl|exact Or.inr (Or.inl rfl)|exact Or.inr (Or.inr rfl)) (hx:Loc X.env.scope y:=by first|exact Or.inl rfl|exact Or.inr rfl)
 (hd:(x==("__debug__":Str))=false:=by decide) (hcd:(x==("__classdict__":Str))=false:=by decide) (hmn:∀ k,k<fnames.length->(mn==cq k)=false:=by decide)
 (ht:eval (.Call (.Attribute (.Name x p1) mn ap) [] [] pos) X.env=(do
 let ov <- eval (.Name x p1) X.env
 standAt ap.atName
 let (f,first) <- holding [ov] (getMethod ov mn pl)
 callWith pos f first (backTo pos (starEach [] X.env)) (backToKw pos (keywordEach [] X.env))):=by rfl)
 (hw:swappedStores [.Name y py] (.Call (.Attribute (.Name x p1) mn ap) [] [] pos) X.env=pure none:=by rfl) (hf:X.fn y=true\/X.env.scope.names.lookup y=some .local:=by first|exact .inl rfl|exact .inr rfl)
 (hs:swapsWithSole [.Name y py] (.Call (.Attribute (.Name x p1) mn ap) [] [] pos) pos'.line X.env=pure false:=by rfl):zQ X (.Assign [.Name y py] (.Call (.Attribute (.Name x p1) mn ap) [] [] pos) pos'::cV) (vF C i j F g2):=by
 walk_at "u"
 exact fun K1 K0 pins s σ H D I ⟨G,Z,sr,h⟩=>by
  refine gQ (qB (DH (pl:=pl) i c t hr hi hv hd hcd hmn ht) (gz (i:=j) hN hj hx hf) hs hw rfl) (h2 K1 K0) pins s σ H D I ?_
  unfold vF iH at h
  split at h
  ·rename_i m C' p fs e1
   split at h
   ·rename_i z
    obtain rfl:=z
    simp only [R.out] at h
    cases ef:F fs with
    | none=>rw [ef] at h;exact (h (0,default)).elim
    | some fs'=>
     rw [ef] at h
     exact ⟨G,Z,p,fs,fs',sr.e,⟨m,e1⟩,ef,fun x G' H' ow' u ob=>⟨G',_,sr.setObj u ob j,fun q2=>h (x,q2)⟩⟩
   ·exact (h (0,default)).elim
  ·exact (h (0,default)).elim
end
section
variable {X:Cx} {C:Addr} {body:List Stmt} {g:Ev->O} {pos:Pos}
theorem E1 (a b i j:Nat) {xa xb xi xj:Str} {p1 p2 p3 p4 p5 p6 p7 p8 p9 p10:Pos} {n1 n2:Int} {k1 k2 k3 k4 c1 c2:Nat} (hp:PassesOwn (model X.prog X.w) X.A X.env X.xe) (hc:X.calm=true) (hN:X.N.Nodup) (hb:qm X body g)
 (hai:a≠i:=by decide) (hbi:b≠i:=by decide) (ha:X.N[a]?=some xa:=by rfl) (hbx:X.N[b]?=some xb:=by rfl) (hi:X.N[i]?=some xi:=by rfl) (hj:X.N[j]?=some xj:=by rfl)
 (va:Vis X.env.scope xa:=by first|exact Or.inl rfl|exact Or.inr (Or.inl rfl)|exact Or.inr (Or.inr rfl)) (vb:Vis X.env.scope xb:=by first|exact Or.inl rfl|exact Or.inr (Or.inl rfl)|exact Or.inr (Or.inr rfl))
 (li:Loc X.env.scope xi:=by first|exact Or.inl rfl|exact Or.inr rfl) (lj:Loc X.env.scope xj:=by first|exact Or.inl rfl|exact Or.inr rfl)
 (fi:X.fn xi=true\/X.env.scope.names.lookup xi=some .local:=by first|exact .inl rfl|exact .inr rfl) (fj:X.fn xj=true\/X.env.scope.names.lookup xj=some .local:=by first|exact .inl rfl|exact .inr rfl)
 (d1:(xa==("__debug__":Str))=false:=by decide) (d2:(xa==("__classdict__":Str))=false:=by decide) (d3:(xb==("__debug__":Str))=false:=by decide) (d4:(xb==("__classdict__":Str))=false:=by decide)
 (s1:starEach [.Name xa p3,.Constant (.int n1) c1 p4] X.env=(false,eval (.Name xa p3) X.env)::starEach [.Constant (.int n1) c1 p4] X.env:=by rfl) (s2:starEach [.Name xb p6,.Constant (.int n2) c2 p7] X.env=(false,eval (.Name xb p6) X.env)::starEach [.Constant (.int n2) c2 p7] X.env:=by rfl)
 (s3:starEach [.Constant (.int n1) c1 p4] X.env=(false,eval (.Constant (.int n1) c1 p4) X.env)::starEach [] X.env:=by rfl) (s4:starEach [.Constant (.int n2) c2 p7] X.env=(false,eval (.Constant (.int n2) c2 p7) X.env)::starEach [] X.env:=by rfl)
 (s5:starEach [.Tuple [.Name xa p3,.Constant (.int n1) c1 p4] k1 p5,.Tuple [.Name xb p6,.Constant (.int n2) c2 p7] k2 p8] X.env=(false,eval (.Tuple [.Name xa p3,.Constant (.int n1) c1 p4] k1 p5) X.env)::starEach [.Tuple [.Name xb p6,.Constant (.int n2) c2 p7] k2 p8] X.env:=by rfl)
 (s6:starEach [.Tuple [.Name xb p6,.Constant (.int n2) c2 p7] k2 p8] X.env=(false,eval (.Tuple [.Name xb p6,.Constant (.int n2) c2 p7] k2 p8) X.env)::starEach [] X.env:=by rfl)
 (hn:(assignEach [.Name xi p1,.Name xj p2] X.env).length=2:=by rfl) (hst:(assignEach [.Name xi p1,.Name xj p2] X.env).findIdx? (·.1)=none:=by rfl)
 (hs1:(assignEach [.Name xi p1,.Name xj p2] X.env).map (·.2)=assign (.Name xi p1) X.env::(assignEach [.Name xj p2] X.env).map (·.2):=by rfl) (hs2:(assignEach [.Name xj p2] X.env).map (·.2)=assign (.Name xj p2) X.env::(assignEach [] X.env).map (·.2):=by rfl)
 (hs:∀ x,foldedSetIterable (.Tuple [.Tuple [.Name xa p3,.Constant (.int n1) c1 p4] k1 p5,.Tuple [.Name xb p6,.Constant (.int n2) c2 p7] k2 p8] k3 p9) X.env x=pure x:=by intro _;rfl):PSF X (.For (.Tuple [.Name xi p1,.Name xj p2] k4 p10) (.Tuple [.Tuple [.Name xa p3,.Constant (.int n1) c1 p4] k1 p5,.Tuple [.Name xb p6,.Constant (.int n2) c2 p7] k2 p8] k3 p9) body [] pos) (C3 C a b i j n1 n2 g):=by
 walk_at "u"
 exact fun K1 K0 pins s σ H D I ⟨G,Z,sr,h⟩=>by
  obtain ⟨pa,fa,ea,h⟩:=iz h
  obtain ⟨pb,fb,eb,h⟩:=iz h
  have h:ke X K1 K0 D (El (mvO C a i j pa (.int n1)) (mvO C b i j pb (.int n2)) g Z):=h
  have pe:=uV (X:=X) (pos:=p9) (x1:=k3) (bQ (uV (pos:=p5) (x1:=k1) (bQ (cw (pos:=p3) ha va d1 d2) (bQ (yb (i:=n1) (j:=c1) (pos:=p4)) fE s3) s1)) (bQ (uV (pos:=p8) (x1:=k2) (bQ (cw (pos:=p6) hbx vb d3 d4) (bQ (yb (i:=n2) (j:=c2) (pos:=p7)) fE s4) s2)) fE s6) s5)
  have hi':PI X (.Tuple [.Name xi p1,.Name xj p2] k4 p10) (.Tuple [.Tuple [.Name xa p3,.Constant (.int n1) c1 p4] k1 p5,.Tuple [.Name xb p6,.Constant (.int n2) c2 p7] k2 p8] k3 p9) (fun σ H R=>Gy (pX (Gy (pX (vj a) (pX (tC (.int n1)) Gv))) (pX (Gy (pX (vj b) (pX (tC (.int n2)) Gv))) Gv)) σ H fun v H1=>∃ l xs,v=.ref l/\SqT X.K H1 l xs/\R (Itt X.K l) H1):=fun pins s σ H R I q=>
   thn (pe pins s σ H _ I q) fun v s1 ⟨x,H1,I1,r1,l,xs,ex,hq,hR⟩=>by
    subst ex
    cases r1
    exact Bi I1 hq hR
  have hg':PG X (.Tuple [.Name xi p1,.Name xj p2] k4 p10) (Hy X.K 2 (yk (yy i) (yk (yy j) Ip))):=BG hc (pR (gz hN hi li fi) (pR (gz hN hj lj fj) yP hs2) hs1) hn hst
  have hb':PSs X body (fun D σ H=>∃ K1 K0,tS X K1 K0 g D σ H):=fun pins s σ H D I ⟨K1,K0,q⟩=>hb K1 K0 pins s σ H D I q
  refine yZ hp hc hi' hg' hb' hs pins s σ H D I ⟨.ref pa,(sr.e.obs a true C pa fa ea).1,by show 2<=sizeLine;decide,fun t1 z1=>⟨.ref pb,(sr.e.obs b true C pb fb eb).1,by show 2<=sizeLine;decide,fun t2 z2=>⟨by show 2<=sizeLine;decide,fun t z3=>⟨t,[.ref t1,.ref t2],rfl,.of aX,?_⟩⟩⟩⟩
  have u1:Up G H _ _:=.new (o:=.tup [.ref pa,.int n1]) sr.e.sub z1
  have u2:=u1.trans (.new (o:=.tup [.ref pb,.int n2]) u1.sub z2)
  have u3:=u2.trans (.new (o:=.tup [.ref t1,.ref t2]) u2.sub z3)
  have sr1:=sr.ups u3
  generalize hG:upd (upd (upd G t1 (.tup [.ref pa,.int n1])) t2 (.tup [.ref pb,.int n2])) t (.tup [.ref t1,.ref t2])=G1 at u3 sr1
  have n12:t1≠t2:=aO aX z2
  have g0:G1 t=some (.tup [.ref t1,.ref t2]):=by rw [<- hG];exact aX
  have g1:G1 t1=some (.tup [.ref pa,.int n1]):=by rw [<- hG,aL (aO (by rw [aL n12,aX]) z3),aL n12,aX]
  have g2:G1 t2=some (.tup [.ref pb,.int n2]):=by rw [<- hG,aL (aO aX z3),aX]
  refine ⟨fun k m σ' H'=>∃ G' Z',StR X.K G1 (mix K0 G1) G' H' σ' Z'/\((k=0/\m=2/\ke X K1 K0 D (El (mvO C a i j pa (.int n1)) (mvO C b i j pb (.int n2)) g Z'))\/(k=1/\m=1/\ke X K1 K0 D (Fj (mvO C b i j pb (.int n2)) g Z'))\/(k=2/\m=0/\ke X K1 K0 D (.nx Z'))),⟨2,G1,Z,sr1.to,.inl ⟨rfl,rfl,h⟩⟩,?_⟩
  rintro k m σ' H' ⟨G',Z',sr',w⟩
  have at':∀ {q:Addr} {vs:List V},G1 q=some (.tup vs)->SqT X.K H' q vs:=fun e=>.of (sr'.e.sub _ _ (sr'.up.gg _ _ e))
  have turn:∀ {q p:Addr} {n:Int} {c:Nat} {Z1:Ev} {x:V} {T:St->Hp->Prop},G1 q=some (.tup [.ref p,.int n])->mvO C c i j p (.int n) Z'=some Z1->c≠i->x=.ref q->ke X G1 (mix K0 G1) { D with nx:=T,ct:=T,bk:=D.nx } (g Z1)->
    Hy X.K 2 (yk (yy i) (yk (yy j) Ip)) x σ' H' fun σ2 H2=>∃ K1 K0,tS X K1 K0 g { D with nx:=T,ct:=T,bk:=D.nx } σ2 H2:=fun e1 e2 ne ex o=>
   ⟨_,_,ex,at' e1,rfl,_,_,rfl,_,_,rfl,rfl,G1,mix K0 G1,G',_,sr'.mvO e2 ne (.int _),o⟩
  rcases w with ⟨rfl,rfl,w⟩|⟨rfl,rfl,w⟩|⟨rfl,rfl,w⟩
  ·refine .inr ⟨⟨_,_,at' g0,rfl⟩,fun σ2 H2=>∃ G2 Z2,StR X.K G1 (mix K0 G1) G2 H2 σ2 Z2/\ke X K1 K0 D (Fj (mvO C b i j pb (.int n2)) g Z2),fun σ2 H2 ⟨G2,Z2,q1,q2⟩=>⟨1,by decide,G2,Z2,q1,.inr (.inl ⟨rfl,rfl,q2⟩)⟩,fun x H2 y=>?_⟩
   obtain ⟨rfl,y⟩:=y
   have ex:=Option.some.inj (y _ (at' g0))
   unfold El at w
   cases q1:mvO C a i j pa (.int n1) Z' with
   | none=>rw [q1] at w;exact w.elim
   | some Z1=>
    rw [q1] at w
    refine turn g1 q1 hai ex.symm ?_
    dsimp only at w
    cases q2:g Z1 with
    | nx Z2=>rw [q2] at w;exact fun σ4 G4 H4 sr4=>⟨G4,Z2,sr4,w⟩
    | rt d=>rw [q2] at w;exact fun v G4 H4 u4 r4=>w v G4 H4 (sr1.up.back u4) r4
    | _=>rw [q2] at w;exact w.elim
  ·refine .inr ⟨⟨_,_,at' g0,rfl⟩,fun σ2 H2=>∃ G2 Z2,StR X.K G1 (mix K0 G1) G2 H2 σ2 Z2/\ke X K1 K0 D (.nx Z2),fun σ2 H2 ⟨G2,Z2,q1,q2⟩=>⟨0,by decide,G2,Z2,q1,.inr (.inr ⟨rfl,rfl,q2⟩)⟩,fun x H2 y=>?_⟩
   obtain ⟨rfl,y⟩:=y
   have ex:=Option.some.inj (y _ (at' g0))
   unfold Fj at w
   cases q1:mvO C b i j pb (.int n2) Z' with
   | none=>rw [q1] at w;exact w.elim
   | some Z1=>
    rw [q1] at w
    refine turn g2 q1 hbi ex.symm ?_
    dsimp only at w
    cases q2:g Z1 with
    | nx Z2=>rw [q2] at w;exact fun σ4 G4 H4 sr4=>⟨G4,Z2,sr4,w⟩
    | rt d=>rw [q2] at w;exact fun v G4 H4 u4 r4=>w v G4 H4 (sr1.up.back u4) r4
    | _=>rw [q2] at w;exact w.elim
  ·exact .inl ⟨⟨_,at' g0,Nat.le_refl _⟩,w σ' G' H' (sr'.back sr.sub0 sr1.up)⟩
end
section
theorem B3 {cV:List Stmt} {α:Type} {g2:α->Ev->O} {e e':Expr} {cn:Str} [Inhabited α] (i j:Nat) {z:Str} {pz pt pt2 q1 q2:Pos} {kt k2:Nat}
 (c:MkC X.prog X.w X.K X.mg X.base C cn k n F) (hr:Room (k+1) X.A) (hc:X.calm=true) (hN:X.N.Nodup) (ha:PFA X (e::es) gl) (hb:PF X e' gb) (h2:zQ X cV g2) (hij:i≠j:=by decide)
 (hi:X.N[i]?=some y:=by rfl) (hj:X.N[j]?=some z:=by rfl) (hx:X.env.scope.names.lookup y=some .local:=by rfl) (hy:X.env.scope.names.lookup z=some .local:=by rfl)
 (hg:Gl X cn:=by rfl) (hdb:(cn==("__debug__":Str))=false:=by decide) (he:starEach (e::es) X.env=(false,eval e X.env)::starEach es X.env:=by rfl) (hpl:(backTo q2 (starEach es X.env)).any (·.1)=false:=by rfl)
 (hse:starEach [.Call (.Name cn q1) (e::es) [] q2,e'] X.env=(false,eval (.Call (.Name cn q1) (e::es) [] q2) X.env)::starEach [e'] X.env:=by rfl)
 (hse2:starEach [e'] X.env=(false,eval e' X.env)::starEach [] X.env:=by rfl)
 (hw:swappedStores [.Tuple [.Name y py,.Name z pz] kt pt] (.Tuple [.Call (.Name cn q1) (e::es) [] q2,e'] k2 pt2) X.env=pure (some [y,z]):=by rfl)
 (hs:swapsWithSole [.Tuple [.Name y py,.Name z pz] kt pt] (.Tuple [.Call (.Name cn q1) (e::es) [] q2,e'] k2 pt2) pos.line X.env=pure false:=by rfl):zQ X (.Assign [.Tuple [.Name y py,.Name z pz] kt pt] (.Tuple [.Call (.Name cn q1) (e::es) [] q2,e'] k2 pt2) pos::cV) (xN C i j F n gl gb g2):=by
 walk_at "u"
 exact fun K1 K0 pins s σ H D I ⟨G,Z,sr,h⟩=>by
  refine gQ (A6 hc hN hi hj hij hx hy (bQ (vc c hr ha hg hdb he hpl) (bQ hb fE hse2) hse) hw hs) (h2 K1 K0) pins s σ H D I ⟨G,Z,sr.e,?_⟩
  have h:∀ q:Addr×α,ke X K1 K0 D ((fN (gl Z>>=yf F n)).out Z fun fs=>(fN (gb Z)).out Z fun d=>g2 q.2 ((Z.set i (some (.obj true C q.1 fs))).set j (some (.val d)))):=h
  cases q:gl Z>>=yf F n with
  | ok fs=>
   rw [q] at h
   intro x G' H' ow' u ob
   refine ⟨G',Z,(sr.ups u).e,?_⟩
   cases q':gb Z with
   | ok d=>
    rw [q'] at h
    exact fun v G2 H2 u2 r=>⟨.ref x,v,rfl,G2,_,((sr.setObj u ob i).ups u2).set r j,fun q3=>h (x,q3)⟩
   | _=>rw [q'] at h;exact (h (0,default)).elim
  | _=>rw [q] at h;exact (h (0,default)).elim
end
end L2
namespace L2
open PySem PySem.Spec PyProof.Rows
section
variable {Z:Ev} {g g1 g2':Ev->O} {gt gu:Ev->R Bool} {ga gb gc:Ev->R D} {gl:Ev->R (List D)} {go gp:Ev->R (Option Int)} {i n:Nat} {f f':D->D->Option D} {asg:D->Ev->R Ev} {C:Addr}
theorem jT:aJ g1 g2' Z=(g1 Z).seq g2':=rfl
theorem Ja:oIf gt g1 g2' Z=(gt Z).out Z fun k=>if k=true then g1 Z else g2' Z:=rfl
theorem Ep:eB i ga Z=(ga Z).out Z fun d=>.nx (Z.set i (some (.val d))):=rfl
theorem G6:cg ga Z=(ga Z).out Z .rt:=rfl
theorem JT:oNx Z=.nx Z:=rfl
theorem GN:Cv i gl Z=(gl Z).out Z fun ds=>.nx (Z.set i (some (.own ds))):=rfl
theorem Fo:wm ga Z=(ga Z).out Z fun _=>.nx Z:=rfl
theorem Ez:sv asg gl g Z=(gl Z).out Z fun items=>dF asg g items Z:=rfl
theorem Dv:hJ C gl Z=(gl Z).out Z fun _=>.ex C Z:=rfl
theorem G0:D2 asg ga Z=(ga Z).out Z fun d=>(asg d Z).out Z .nx:=rfl
theorem GK:F3 i g Z=g (frz i Z):=rfl
theorem Br {α β:Type} {h:α->R β} {gx:Ev->R α}:aS h gx Z=gx Z>>=h:=rfl
theorem IZ {h:List D->Option D}:gOf h gl Z=gl Z>>=fun ds=>ofO (h ds):=rfl
theorem yH:aa ga gl Z=ga Z>>=fun x=>gl Z>>=fun xs=>.ok (x::xs):=rfl
theorem DI:cQ gl Z=gl Z>>=fun ds=>.ok (.lst false ds):=rfl
theorem Ib:sw gl Z=gl Z>>=fun ds=>if ds.length<=sizeLine then .ok ds else .no:=rfl
theorem Jr:gB2 f ga gb Z=g2 f ga gb Z>>=asB:=rfl
theorem JK:gB3 f f' ga gb gc Z=g3 f f' ga gb gc Z>>=asB:=rfl
theorem JU:gBn gt Z=gt Z>>=fun k=>.ok (!k):=rfl
theorem F9:jI ga Z=ga Z>>=fun x=>asI x>>=fun i=>.ok (some i):=rfl
theorem E8 {T:String} {h:D->List D->Option D}:pN T h ga gl Z=ga Z>>=fun x=>if jr T x=true then gl Z>>=fun ds=>ofO (h x ds) else .no:=rfl
theorem Jn:g2 f ga gb Z=ga Z>>=fun x=>gb Z>>=fun y=>ofO (f x y):=rfl
theorem Hv:ql ga gb Z=ga Z>>=fun x=>asB x>>=fun k=>if k=true then gb Z else .ok (.bl false):=rfl
theorem Ju:gOr ga gb Z=ga Z>>=fun x=>asB x>>=fun k=>if k=true then .ok (.bl true) else gb Z:=rfl
theorem Iu:su gt gu Z=gt Z>>=fun k=>if k=true then .ok true else gu Z:=rfl
theorem GJ:gIf gt ga gb Z=gt Z>>=fun k=>if k=true then ga Z else gb Z:=rfl
theorem J6:gSl ga go gp Z=ga Z>>=fun x=>go Z>>=fun l=>gp Z>>=fun u=>ofO (D1 l u x):=rfl
theorem FI:kJ gl ix gt ga Z=gl Z>>=fun items=>jp gt ga items (kN ix Z)>>=fun ds=>if ds.length<=sizeLine then .ok ds else .no:=rfl
theorem BZ {h:List D->R D}:bf 1 h (aa ga fun _=>.ok []) Z=ga Z>>=fun x=>h [x]:=Bf
theorem Ce {h:List D->R D}:bf 2 h (aa ga (aa gb fun _=>.ok [])) Z=ga Z>>=fun x=>gb Z>>=fun y=>h [x,y]:=yO
theorem DS {h:List D->R D}:bf 3 h (aa ga (aa gb (aa gc fun _=>.ok []))) Z=ga Z>>=fun x=>gb Z>>=fun y=>gc Z>>=fun z=>h [x,y,z]:=yj
theorem C6 {h:List D->R D} {gd:Ev->R D}:bf 4 h (aa ga (aa gb (aa gc (aa gd fun _=>.ok [])))) Z=ga Z>>=fun x=>gb Z>>=fun y=>gc Z>>=fun z=>gd Z>>=fun u=>h [x,y,z,u]:=by
 unfold bf
 simp only [yH]
 cases ga Z <;> try rfl
 simp only [R.ok_bind]
 cases gb Z <;> try rfl
 simp only [R.ok_bind]
 cases gc Z <;> try rfl
 simp only [R.ok_bind]
 cases gd Z <;> rfl
end
theorem GX (i:Nat) (ga:Ev->R D) (Z:Ev):Il i ga Z=(ownAt Z i).out Z fun ds=>(ga Z).out Z fun d=>(asL d).out Z fun es=>if ds.length+es.length<=sizeLine then .nx (Z.set i (some (.own (ds++es)))) else .no:=rfl
theorem HW (i:Nat) (ga:Ev->R D) (Z:Ev):GG i ga Z=(ownAt Z i).out Z fun ds=>(ga Z).out Z fun d=>if ds.length<sizeLine then .nx (Z.set i (some (.own (ds++[d])))) else .no:=rfl
theorem HC (i j:Nat) (gl:Ev->R (List D)) (Z:Ev):Gw i j gl Z=(gl Z).out Z fun ds=>(qb [i,j] ds Z).out Z .nx:=rfl
theorem asl (ds:List D):asL (.lst false ds)=.ok ds:=rfl
def g3k (f':D->D->Option D) (r:R D) (y:D):D->R D
 | .bl true=>r>>=fun w=>ofO (f' y w)
 | .bl false=>.ok (.bl false)
 | _=>.no
theorem J7 (f f':D->D->Option D) (ga gb gc:Ev->R D) (Z:Ev):g3 f f' ga gb gc Z=ga Z>>=fun x=>gb Z>>=fun y=>ofO (f x y)>>=g3k f' (gc Z) y:=rfl
theorem GW (f':D->D->Option D) (r:R D) (y:D) (b:Bool):g3k f' r y (.bl b)=if b=true then (r>>=fun w=>ofO (f' y w)) else .ok (.bl false):=by cases b <;> rfl
theorem sv2 (i j:Nat) (x y:D) (Z:Ev):qb [i,j] [x,y] Z=.ok ((Z.set i (some (.val x))).set j (some (.val y))):=rfl
theorem rj (Z:Ev) (k:Ev->O):(O.nx Z).seq k=k Z:=rfl
theorem GE (d:D) (k:Ev->O):(O.rt d).seq k=.rt d:=rfl
theorem I8 (C:Addr) (Z:Ev) (k:Ev->O):(O.ex C Z).seq k=.ex C Z:=rfl
theorem IC (d:D):aK (.rt d)=.ok d:=rfl
theorem Jo (Z:Ev):aK (.nx Z)=.ok .non:=rfl
theorem Ji (C:Addr) (Z:Ev):aK (.ex C Z)=.ex C:=rfl
theorem Js (k:Bool):asB (.bl k)=.ok k:=rfl
theorem jf (i:Int):asI (.int i)=.ok i:=rfl
theorem JX (k:Bool):nI (.bl k)=.ok k:=rfl
theorem rd7 (a0 a1 a2 a3 a4 a5 a6:Option Sl) (d:D) (Z:Ev):rdV (a0::a1::a2::a3::a4::a5::a6::some (.val d)::Z) 7=.ok d:=rfl
theorem rd8 (a0 a1 a2 a3 a4 a5 a6 a7:Option Sl) (d:D) (Z:Ev):rdV (a0::a1::a2::a3::a4::a5::a6::a7::some (.val d)::Z) 8=.ok d:=rfl
theorem rd9 (a0 a1 a2 a3 a4 a5 a6 a7 a8:Option Sl) (d:D) (Z:Ev):rdV (a0::a1::a2::a3::a4::a5::a6::a7::a8::some (.val d)::Z) 9=.ok d:=rfl
theorem JW (a0 a1 a2 a3 a4 a5 a6 a7 a8 a9 a10:Option Sl) (d:D) (Z:Ev):rdV (a0::a1::a2::a3::a4::a5::a6::a7::a8::a9::a10::some (.val d)::Z) 11=.ok d:=rfl
theorem J8 (a0 a1 a2 a3 a4 a5 a6 a7 a8 a9 a10 a11:Option Sl) (d:D) (Z:Ev):rdV (a0::a1::a2::a3::a4::a5::a6::a7::a8::a9::a10::a11::some (.val d)::Z) 12=.ok d:=rfl
section
variable (i j:Int)
theorem Hb:bL (.int i) (.int j)=some (.int (i+j)):=by simp only [bL]
theorem Hw:xh (.int i) (.int j)=some (.int (i - j)):=by simp only [xh]
theorem IU:leD (.int i) (.int j)=some (.bl (decide (i<=j))):=by simp only [leD]
theorem Jc:ltD (.int i) (.int j)=some (.bl (decide (i<j))):=by simp only [ltD]
theorem Jp:gtD (.int i) (.int j)=some (.bl (decide (j<i))):=by simp only [gtD]
theorem Jj:geD (.int i) (.int j)=some (.bl (decide (j<=i))):=by simp only [geD]
theorem HQ:eqF (.int i) (.int j)=some (.bl (i==j)):=by simp only [eqF,eqD,Option.map_some]
theorem J4:neF (.int i) (.int j)=some (.bl (!(i==j))):=by simp only [neF,eqD,Option.map_some]
end
theorem FT {i j:Int} (h : -(2 ^ 64)<i/\i<2 ^ 64):fF (.int i) (.int j)=some (.int (i * j)):=by simp only [fF];rw [if_pos (Or.inl h)]
theorem sC {x y:List Nat} (h:x.length+y.length<=sizeLine):bL (.str x) (.str y)=some (.str (x++y)):=by simp only [bL];rw [if_pos h]
theorem Ao {x y:List D} (h:x.length+y.length<=sizeLine):bL (.tup x) (.tup y)=some (.tup (x++y)):=by simp only [bL];rw [if_pos h]
theorem Jq (x y:List Nat):eqF (.str x) (.str y)=some (.bl (x==y)):=by simp only [eqF,eqD,Option.map_some]
theorem zX {α:Type} (n:Nat) (x:α):(List.replicate n [x]).flatten=List.replicate n x:=by
 induction n with
 | zero=>rfl
 | succ n ih=>rw [List.replicate_succ,List.flatten_cons,ih];rfl
theorem bo:(1000:Nat)<=sizeLine:=by decide
theorem DB {c:Nat} (h:n<=1000):fF (.str [c]) (.int (n:Int))=some (.str (List.replicate n c)):=by
 have:=bo
 simp only [fF]
 rw [if_pos (by refine ⟨by omega,by omega,?_⟩;simp;omega),Int.toNat_natCast,zX]
theorem vY {xs:List D} (h:xs[k]?=some d):ixD (.tup xs) (.int (k:Int))=some d:=by simp only [ixD];exact Dx h
theorem uc {α:Type} (xs:List α) (k:Nat):nT xs none (some (k:Int))=xs.take k:=by
 unfold nT
 rw [HT.sIx_none,HT.sIx_nat,List.drop_zero,Nat.sub_zero]
 by_cases h:k<=xs.length
 ·rw [Nat.min_eq_left h]
 ·rw [Nat.min_eq_right (by omega),List.take_length,List.take_of_length_le (by omega)]
theorem nC {α:Type} (xs:List α) (k:Nat):nT xs (some (k:Int)) none=xs.drop k:=by
 unfold nT
 rw [HT.sIx_none,HT.sIx_nat]
 by_cases h:k<=xs.length
 ·rw [Nat.min_eq_left h,List.take_of_length_le (by simp)]
 ·rw [Nat.min_eq_right (by omega),List.drop_length,List.take_nil,List.drop_of_length_le (by omega)]
theorem GQ (lo hi:Option Int) (x:List Nat):D1 lo hi (.str x)=some (.str (nT x lo hi)):=rfl
theorem HY (lo hi:Option Int) (x:List D):D1 lo hi (.tup x)=some (.tup (nT x lo hi)):=rfl
theorem GM (x:List D):eZ [.tup x]=some (.int x.length):=rfl
theorem Ik (x:List Nat):eZ [.str x]=some (.int x.length):=rfl
theorem m_t (h:ds.length<=1000):mkT ds=.ok (.tup ds):=if_pos (Nat.le_trans h bo)
theorem gR (h:n<=1000):bp [.int (n:Int)]=.ok ((List.range n).map fun (i:Nat)=>D.int (i:Int)):=by
 have e:bp [.int (n:Int)]=if -(2 ^ 62)<=(n:Int)/\(n:Int)<2 ^ 62 then .ok ((List.range (n:Int).toNat).map fun i=>D.int (0+(i:Nat))) else .no:=by simp only [bp]
 rw [e,if_pos (by constructor <;> omega),Int.toNat_natCast]
 simp only [Int.zero_add]
theorem JG {α:Type} (a v:α) (l:List α):(a::l).set 0 v=v::l:=rfl
theorem lN {g:Ev->O} {Z1 Z2:Ev} (h1:asg d Z=.ok Z1) (h2:g Z1=.nx Z2):dF asg g (d::ds) Z=dF asg g ds Z2:=by
 rw [dF,h1]
 show (match g Z1 with
  | .nx Z2=>dF asg g ds Z2
  | .ct Z2=>dF asg g ds Z2
  | .bk Z2=>O.nx Z2
  | .rt d=>O.rt d
  | .re d Z2=>.re d Z2
  | .ex C Z2=>O.ex C Z2
  | .no=>O.no)=_
 rw [h2]
theorem lD {e:Expr} (hg:Gl X "tuple") (hm:X.mg "tuple"=none) (ha:PFA X [e] gl) (he:starEach [e] X.env=(false,eval e X.env)::starEach [] X.env:=by rfl) :
  PF X (.Call (.Name "tuple" p) [e] [] pos) (gOf ju gl):=yc oU (Ar _) hg hm PyProof.Rows.Boot.«tuple» ha (by decide) (by decide) he rfl
end L2
namespace L2
open PySem PySem.Spec PyProof.Rows
theorem GL {a b:Expr} {ga:Ev->R D} (ha:PF X a ga) (hb:PF X b gb):PB X (.Compare a [.GtE] [b] pos) (gB2 geD ga gb):=Hh ha hb
def oz:D->List D->Option D
 | .str x,[.int i]=>if -1000<=i/\i<=1000 then some (.str (x++List.replicate (i.toNat - x.length) 32)) else none
 | _,_=>none
def BD:V->List V->Hp->VK->Prop:=fun x vs H Q=>∃ (y:Str) (i:Int),x=.str y/\vs=[.int i]/\-1000<=i/\i<=1000/\Q (.str (Txt.ljust y i)) H
theorem Az:MtR X "str.ljust" BD:=by
 intro pins s σ H x xs v us Q I rx rv ⟨y,i,ex,exs,h1,h2,q⟩
 subst ex exs
 obtain ⟨t,rfl⟩:=rx
 obtain ⟨u,rfl,r1⟩:=rv.one
 obtain ⟨t',rfl⟩:=r1
 exact SC.ljust (padOk_of (by omega) (by omega)) (fun t'' k=>⟨.str _,H,I.tok _,⟨_,rfl⟩,q⟩)
theorem se (y:Str) (i:Int):(Txt.ljust y i).cps.toList=y.cps.toList++List.replicate (i.toNat - y.cps.toList.length) 32:=by
 unfold Txt.ljust
 have hl:y.length=y.cps.toList.length:=by simp [Str.length]
 split
 ·rename_i h
  have:i.toNat - y.cps.toList.length=0:=by omega
  rw [this];simp
 ·simp [Builtin.Str.padded,Str.length]
theorem AD (K:PySem.W.Frag):DZ K "str" BD oz:=by
 intro G H x xs dx ds d Q s rx rs e q
 unfold oz at e
 split at e
 ·split at e
  ·rename_i hi
   cases e
   obtain ⟨v,rfl,r1⟩:=rs.one
   obtain ⟨y,rfl,ey,hy⟩:=rx.str_inv
   obtain rfl:=r1.int_inv
   refine ⟨y,_,rfl,rfl,hi.1,hi.2,q _ G H (.refl s) (.strL (by rw [se,ey]) ?_)⟩
   have h1:y.length=y.cps.toList.length:=by simp [Str.length]
   have:=bo
   rw [h1,ey] at hy
   simp;omega
  ·cases e
 ·cases e
theorem DT {o e:Expr} {ga:Ev->R D} {ap cp:Pos} (ho:PF X o ga) (ha:PFA X [e] gl) (hbase:attributeBase o "ljust" X.env (eval o X.env)=eval o X.env:=by rfl)
 (hfew:((backTo cp (starEach [e] X.env)).all (fun x=>!x.1) && (backToKw cp (keywordEach [] X.env)).all (fun x=>x.1.isSome)
 && decide ([e].length+([]:List Keyword).length+(if ([]:List Keyword).isEmpty then 0 else 1)<30))=true:=by rfl)
 (hline:(ap.endLine==cp.line)=true:=by rfl) (hs:starEach [e] X.env=(false,eval e X.env)::starEach [] X.env:=by rfl) :
  PF X (.Call (.Attribute o "ljust" ap) [e] [] cp) (pN "str" oz ga gl):=Dl PySem.F.plainAttrs_str PySem.F.slot_str_ljust PySem.F.type_str_ljust Az (AD _) ho ha hbase hfew hline hs rfl
end L2
namespace L2
open PySem PySem.Spec PyProof.Rows
theorem Gu {l:List Str} {y5 y6 y7 y8 y9 y10 y11:Str}:At (y0::y1::y2::y3::y4::y5::y6::y7::y8::y9::y10::y11::x::l) 12 x:=rfl
theorem EW {l:List Str} {y5 y6 y7 y8 y9 y10 y11 y12:Str}:At (y0::y1::y2::y3::y4::y5::y6::y7::y8::y9::y10::y11::y12::x::l) 13 x:=rfl
theorem JI (a0 a1 a2 a3 a4 a5 a6 a7 a8 a9 a10 a11 a12:Option Sl) (d:D) (Z:Ev):rdV (a0::a1::a2::a3::a4::a5::a6::a7::a8::a9::a10::a11::a12::some (.val d)::Z) 13=.ok d:=rfl
def Fx (i:Nat) (Z:Ev) (ds:List D) (d:D):Option Nat->O
 | some n=>if fl 10 d=true then .nx (Z.set i (some (.own (ds.set n d)))) else .no
 | none=>.no
def He (i:Nat):O->O
 | .nx Z=>.nx (Z.set i none)
 | .rt d=>.rt d
 | _=>.no
def D9 (gs:Ev->O) (f:Addr->Option Bool) (i:Nat):O->O
 | .ex C Z=>(match f C with
  | some true=>He i (gs (Z.set i (some (.val (.exc C)))))
  | _=>.no)
 | o=>o
def Eo (gs:List (Ev->R D)) (out:List Nat) (Z:Ev):D->R D
 | .str x=>if (out++x).length<=sizeLine then tH gs (out++x) Z else .no
 | _=>.no
theorem B1 (C:Addr) (i k:Nat) (gb:Ev->R D) (Z:Ev):uI C i k gb Z=(iH C Z i>>=fun fs=>fldL fs k>>=fun ds=>gb Z>>=fun d=>ofO (ixD (.lst false ds) d)):=rfl
theorem An (C:Addr) (i k:Nat) (Z:Ev):jN C i k Z=(iH C Z i>>=fun fs=>fldL fs k>>=fun ds=>.ok (.int ds.length)):=rfl
theorem Eu (C:Addr) (i k:Nat) (ga:Ev->R D) (Z:Ev):yd C i k ga Z=(jZ C Z i).out Z fun o=>(fldL o.2 k).out Z fun ds=>(ga Z).out Z fun d=>if ds.length<sizeLine then .nx (Z.set i (some (.obj true C o.1 (iJ k (.own (ds++[d])) o.2)))) else .no:=rfl
theorem FH (C:Addr) (i k:Nat) (gl:Ev->R (List D)) (Z:Ev):jl C i k gl Z=(jZ C Z i).out Z fun o=>(gl Z).out Z fun ds=>if o.2.length<900 then .nx (Z.set i (some (.obj true C o.1 (iJ k (.own ds) o.2)))) else .no:=rfl
theorem Ef (ga:Ev->R D) (Z:Ev):xn ga Z=(ga Z).out Z fun d=>.re d Z:=rfl
theorem Cy (C:Addr) (i n:Nat) (F:MF) (gl:Ev->R (List D)) (Z:Ev):hV C i n F gl Z=(iH C Z i>>=fun fs=>gl Z>>=fun ds=>if ds.length=n then (F fs ds).read else .no):=rfl
theorem AC (C:Addr) (i:Nat) (F:MF) (Z:Ev):cP C i F Z=(iH C Z i>>=fun fs=>(F fs []).read):=rfl
theorem Ch (C:Addr) (i n:Nat) (F:MF) (gl:Ev->R (List D)) (Z:Ev):zV C i n F gl Z=(jZ C Z i).out Z fun o=>(gl Z).out Z fun ds=>if ds.length=n then (F o.2 ds).out C o.1 i Z else .no:=rfl
theorem JO (d:D) (Z:Ev) (k:Ev->O):(O.re d Z).seq k=.re d Z:=rfl
theorem HP (d:D):RM.read (.rd d)=.ok d:=rfl
theorem Ga (d:D) (fs:List (Nat×Fd)) (C p:Addr) (i:Nat) (Z:Ev):RM.out (.ok d fs) C p i Z=.nx (Z.set i (some (.obj true C p fs))):=rfl
end L2
section
open L2
set_option compiler.extract_closed false in
local macro_rules | `(tactic| walk_at "run")=>`(tactic| simp -implicitDefEqProofs only [rvz,ciz,nlz,csz,↓BZ,↓Ce,↓DS,↓C6,jT,Ja,Ep,G6,JT,GN,Fo,Ez,Dv,G0,GK,Br,IZ,yH,DI,Ib,Jr,JK,JU,F9,E8,Jn,Hv,Ju,Iu,GJ,J6,FI,GX,HW,tB,JI,and_self,HC,asl,J7,GW,sv2,rj,GE,I8,IC,Jo,Ji,Js,jf,JX,rd0,rd1,rd2,rd3,rd4,rd5,rd6,rd7,rd8,rd9,JW,J8,R.ok_bind,R.ok_out,R.ex_out,cE,Hb,Hw,IU,Jc,Jp,Jj,HQ,J4,Jq,GM,Ik,GQ,HY,JG,List.set_cons_succ,List.length_nil,List.length_cons,List.cons_append,List.nil_append,Nat.reduceAdd,Nat.reduceBEq,Bool.not_true,Bool.not_false,Bool.false_eq_true,if_false,if_true,Int.reduceLT,Int.reduceLE,Int.reduceBEq,decide_true,decide_false,B1,An,Eu,FH,Ef,Cy,AC,Ch,JO,HP,Ga, *])
namespace Q
open L2
open PySem (sizeLine Addr)
def IM:D->Bool
 | .int _=>true
 | _=>false
def Af:List D->R D
 | [.exc _]=>.no
 | [d]=>.ok (.bl (IM d))
 | _=>.no
def mD:Ev->O:=(cg (ql (aS (lw isInt) (rvz 0)) (HI (aS (lw (·=="bool")) (rvz 0)))))
def eI:Ev->O:=(aJ mD oNx)
theorem tR:∀ ds:List D,ds.length=1->Af ds=.no\/aK (eI  (aN 1 ds))=Af ds:=by
 intro ds hl
 unfold eI mD
 match ds,hl with
 | [d],_=>cases d <;> first|exact Or.inr rfl|exact Or.inl rfl
def inB (d:D) (lo hi:Int):Bool:=match d with
 | .int i=>decide (lo<=i) && decide (i<=hi)
 | _=>false
def xo:List D->R D
 | [.exc _,_,_]=>.no
 | [d,.int lo,.int hi]=>.ok (.bl (inB d lo hi))
 | _=>.no
def ky (dg:List D->R D):Ev->O:=(cg (ql (bf 1 dg (aa (rvz 0) nlz)) (g3 leD leD (rvz 1) (rvz 0) (rvz 2))))
def dN (dg:List D->R D):Ev->O:=(aJ (ky dg) oNx)
theorem si:∀ ds:List D,ds.length=3->xo ds=.no\/aK (dN Af (aN 3 ds))=xo ds:=by
 intro ds hl
 unfold dN ky
 match ds,hl with
 | [d,l,h],_=>
  cases d <;> first|exact Or.inl rfl|skip
  all_goals (cases l <;> first|exact Or.inl rfl|skip)
  all_goals (cases h <;> first|exact Or.inl rfl|skip)
  all_goals first|exact Or.inr rfl|skip
  rename_i i lo hi hl
  refine Or.inr ?_
  show aK (aJ _ oNx [some (.val (.int i)),some (.val (.int lo)),some (.val (.int hi))])=R.ok (D.bl (inB (.int i) lo hi))
  by_cases h1:lo<=i <;> simp [aJ,cg,ql,bf,aa,g3,rdV,Af,IM,asB,leD,inB,aK,O.seq,h1]
def plain (x:List Nat):Bool:=x.all fun c=>decide (32<=c) && decide (c<=126)
def B0:D->Bool
 | .str x=>plain x
 | _=>false
def rJ:List D->R D
 | [.exc _]=>.no
 | [.str x]=>if x.length<=sizeLine then .ok (.bl (plain x)) else .no
 | [d]=>.ok (.bl false)
 | _=>.no
def zQz9:Ev->O:=(cg (ql (aS (lw (·=="str")) (rvz 0)) (gOf DX (aa (cQ (kJ (aS kB (rvz 0)) [] (fun _=>R.ok true) (g3 leD leD (csz [32]) (rvz 0) (csz [126])))) nlz))))
def eW:Ev->O:=(aJ zQz9 oNx)
theorem tY:∀ ds:List D,ds.length=1->rJ ds=.no\/aK (eW  (aN 1 ds))=rJ ds:=by
 intro ds hl
 unfold eW zQz9
 match ds,hl with
 | [d],_=>
  cases d <;> first|exact Or.inl rfl|exact Or.inr rfl|skip
  rename_i x hl
  by_cases hx:x.length<=sizeLine
  ·refine Or.inr ?_
   have e:jp (fun _=>R.ok true) (g3 leD leD (fun _=>.ok (.str [32])) (rvz 0) (fun _=>.ok (.str [126]))) (x.map fun c=>D.str [c]) [none]=.ok ((x.map fun c=>D.str [c]).map fun d=>.bl (match d with|.str [c]=>decide (32<=c) && decide (c<=126)|_=>false)):=by
    refine gq _ [] _ none fun d m=>⟨rfl,?_⟩
    obtain ⟨c,_,rfl⟩:=List.mem_map.1 m
    show (ofO (some (D.bl (!decide (([c]:List Nat)<[32]))))>>=fun z=>match z with
     | .bl true=>ofO (some (D.bl (!decide (([126]:List Nat)<[c]))))
     | .bl false=>R.ok (D.bl false)
     | _=>R.no:R D)=_
    rw [za,za,cE,R.ok_bind]
    cases h1:decide (32<=c) <;> simp [h1]
   have e2:rJ [.str x]=.ok (.bl (plain x)):=if_pos hx
   rw [e2]
   show aK (aJ _ oNx [some (.val (.str x))])=_
   simp only [aJ,cg,ql,aS,gOf,aa,cQ,kJ,rd0,lw,tyN,asB,kN,kB,R.ok_bind,List.map_nil]
   simp only [beq_self_eq_true,if_true,e,R.ok_bind]
   simp only [List.length_map,hx,if_true,R.ok_bind,pj,cE,R.ok_out,aK,O.seq,List.all_map,plain]
   rfl
  ·exact Or.inl (if_neg hx)
def DG:D->Bool
 | .exc _=>false
 | .str x=>decide (x.length<=sizeLine)
 | _=>true
def yg (d:D) (wd:Int):Bool:=match d with
 | .str x=>plain x && ((x.length:Int)==wd)
 | _=>false
def vT (d:D) (wd:Int):Bool:=match d with
 | .tup xs=>decide (1<=xs.length) && decide (xs.length<=12) && xs.all fun r=>yg r wd
 | _=>false
def zC:List D->R D
 | [.exc _,_]=>.no
 | [.tup xs,.int wd]=>if xs.all DG=true then .ok (.bl (vT (.tup xs) wd)) else .no
 | [d,.int wd]=>.ok (.bl false)
 | _=>.no
theorem wa (h:DG d=true):rJ [d]=.ok (.bl (B0 d)):=by
 cases d <;> first|rfl|(cases h;done)|skip
 exact if_pos (of_decide_eq_true h)
def fG (bw:List D->R D):Ev->O:=(oIf (su (gBn (aS nI (aS (lw (·=="tuple")) (rvz 0)))) (gBn (gB3 leD leD (ciz 1) (gOf eZ (aa (rvz 0) nlz)) (ciz 12)))) (aJ (cg (fun _=>R.ok (D.bl false))) oNx) oNx)
def fL (bw:List D->R D):Ev->O:=(cg (gOf DX (aa (cQ (kJ (aS kB (rvz 0)) [1] (fun _=>R.ok true) (ql (bf 1 bw (aa (rvz 0) nlz)) (g2 eqF (gOf eZ (aa (rvz 0) nlz)) (rvz 1))))) nlz)))
def ck (bw:List D->R D):Ev->O:=(aJ (fG bw) (aJ (fL bw) oNx))
theorem kH:∀ ds:List D,ds.length=2->zC ds=.no\/aK (ck rJ (aN 2 ds))=zC ds:=by
 intro ds hl
 unfold ck fG fL
 match ds,hl with
 | [d,l],_=>
  cases d <;> first|exact Or.inl rfl|skip
  all_goals (cases l <;> first|exact Or.inl rfl|exact Or.inr rfl|skip)
  rename_i xs wd hl
  by_cases hf:xs.all DG=true
  ·refine Or.inr ?_
   have e2:zC [.tup xs,.int wd]=.ok (.bl (vT (.tup xs) wd)):=if_pos hf
   rw [e2]
   have e:jp (fun _=>R.ok true) (ql (bf 1 rJ (aa (rvz 0) fun x=>R.ok [])) (g2 eqF (gOf eZ (aa (rvz 0) fun x=>R.ok [])) fun Z=>rdV Z 1)) xs [none,some (.val (.int wd))]=.ok (xs.map fun d=>.bl (yg d wd)):=by
    refine gq _ [some (.val (.int wd))] xs none fun d m=>⟨rfl,?_⟩
    have hd:=List.all_eq_true.1 hf d m
    simp only [ql,bf,aa,rd0,R.ok_bind,List.length_singleton,if_true,wa hd,asB]
    cases d <;> first|rfl|skip
    rename_i x
    show (if plain x=true then R.ok (D.bl ((x.length:Int)==wd)) else R.ok (.bl false))=R.ok (.bl (plain x && ((x.length:Int)==wd)))
    cases plain x <;> rfl
   show aK (aJ _ _ [some (.val (.tup xs)),some (.val (.int wd))])=_
   have i2:kN [1] [some (.val (.tup xs)),some (.val (.int wd))]=[none,some (.val (.int wd))]:=rfl
   have t1:lw (fun x=>x=="tuple") (.tup xs)=.ok (.bl true):=rfl
   have t2:nI (.bl true)=.ok true:=rfl
   have t3:eZ [.tup xs]=some (.int xs.length):=rfl
   simp only [aJ,oIf,su,gBn,aS,gB3,g3,cg,gOf,aa,cQ,kJ,rd0,R.ok_bind,R.ok_out,kB,i2,e,t1,t2,t3,cE,leD,Bool.not_true,Bool.false_eq_true,if_false]
   by_cases h1:1<=xs.length
   ·have h1':(1:Int)<=(xs.length:Int):=by omega
    by_cases h2:xs.length<=12
    ·have h2':(xs.length:Int)<=12:=by omega
     have h3:xs.length<=sizeLine:=Nat.le_trans h2 (by decide)
     simp [h1,h1',h2,h2',h3,asB,oNx,O.seq,pj,aK,vT]
     simp only [aJ,cg,gOf,aa,cQ,kJ,aS,rd0,R.ok_bind,kB,i2,e,List.length_map,h3,if_true,pj,cE,R.ok_out,O.seq]
    ·have h2' : ¬ (xs.length:Int)<=12:=by omega
     simp [h1,h1',h2,h2',asB,oNx,O.seq,aK,vT]
   ·have h1' : ¬ (1:Int)<=(xs.length:Int):=by omega
    simp [h1,h1',asB,oNx,O.seq,aK,vT]
  ·exact Or.inl (if_neg hf)
def rW (d:D) (wd m:Int):Bool:=match d with
 | .tup [a,b]=>inB a 0 (m - 1) && inB b 0 wd
 | _=>false
def jV:D->Bool
 | .exc _=>false
 | _=>true
def oI:List D->R D
 | [.exc _,_,_]=>.no
 | [.tup xs,.int wd,.int m]=>if xs.all jV=true then .ok (.bl (rW (.tup xs) wd m)) else .no
 | [d,.int wd,.int m]=>.ok (.bl false)
 | _=>.no
theorem fc {lo hi:Int} (h:jV d=true):xo [d,.int lo,.int hi]=.ok (.bl (inB d lo hi)):=by
 cases d <;> first|rfl|(cases h;done)
def lJ (ax:List D->R D):Ev->O:=(oIf (su (gBn (aS nI (aS (lw (·=="tuple")) (rvz 0)))) (gB2 neF (gOf eZ (aa (rvz 0) nlz)) (ciz 2))) (aJ (cg (fun _=>R.ok (D.bl false))) oNx) oNx)
def nA (ax:List D->R D):Ev->O:=(cg (ql (bf 3 ax (aa (g2 ixD (rvz 0) (ciz 0)) (aa (ciz 0) (aa (g2 xh (rvz 2) (ciz 1)) nlz)))) (bf 3 ax (aa (g2 ixD (rvz 0) (ciz 1)) (aa (ciz 0) (aa (rvz 1) nlz))))))
def eG (ax:List D->R D):Ev->O:=(aJ (lJ ax) (aJ (nA ax) oNx))
theorem uk:∀ ds:List D,ds.length=3->oI ds=.no\/aK (eG xo (aN 3 ds))=oI ds:=by
 intro ds hl
 unfold eG lJ nA
 match ds,hl with
 | [d,l,h],_=>
  cases d <;> first|exact Or.inl rfl|skip
  all_goals (cases l <;> first|exact Or.inl rfl|skip)
  all_goals (cases h <;> first|exact Or.inl rfl|exact Or.inr rfl|skip)
  rename_i xs wd m hl
  by_cases hf:xs.all jV=true
  ·refine Or.inr ?_
   have e2:oI [.tup xs,.int wd,.int m]=.ok (.bl (rW (.tup xs) wd m)):=if_pos hf
   rw [e2]
   match xs,hf with
   | [],_=>rfl
   | [_],_=>rfl
   | [a,b],hf=>
    have ha:jV a=true:=List.all_eq_true.1 hf a (by simp)
    have hb:jV b=true:=List.all_eq_true.1 hf b (by simp)
    show aK ((ql (fun _=>xo [a,.int 0,.int (m - 1)]) (fun _=>xo [b,.int 0,.int wd]) []).out _ .rt |>.seq oNx)=_
    rw [ql,fc ha,fc hb]
    show aK ((if inB a 0 (m - 1)=true then R.ok (D.bl (inB b 0 wd)) else R.ok (D.bl false)).out _ .rt |>.seq oNx)=R.ok (D.bl (inB a 0 (m - 1) && inB b 0 wd))
    cases inB a 0 (m - 1) <;> rfl
   | a::b::c::l,_=>
    show aK (aJ _ _ [some (.val (.tup (a::b::c::l))),some (.val (.int wd)),some (.val (.int m))])=_
    have t1:lw (fun x=>x=="tuple") (.tup (a::b::c::l))=.ok (.bl true):=rfl
    have t2:nI (.bl true)=.ok true:=rfl
    have t3:eZ [.tup (a::b::c::l)]=some (.int (a::b::c::l).length):=rfl
    have t4:neF (.int (a::b::c::l).length) (.int 2)=some (.bl true):=by
     have:(((a::b::c::l).length:Int)==2)=false:=by simp;omega
     show some (D.bl (!(((a::b::c::l).length:Int)==2)))=_
     rw [this];rfl
    simp only [aJ,oIf,su,gBn,aS,gB2,g2,cg,gOf,aa,rd0,R.ok_bind,R.ok_out,t1,t2,t3,t4,cE,Bool.not_true,Bool.false_eq_true,if_false]
    rfl
  ·exact Or.inl (if_neg hf)
def nQ:D->Bool
 | .exc _=>false
 | .tup [w,r,p]=>jV w && (match r with|.exc _=>false|.tup xs=>xs.all DG|_=>true) && (match p with|.exc _=>false|.tup xs=>xs.all jV|_=>true)
 | _=>true
def screen:D->Bool
 | .tup [a,r,p]=>match a with
  | .int wd=>inB (.int wd) 1 40 && vT r wd && (match r with|.tup rows=>rW p wd rows.length|_=>false)
  | _=>false
 | _=>false
def mI:List D->R D
 | [d]=>if nQ d=true then .ok (.bl (screen d)) else .no
 | _=>.no
def kn (ax ba bG:List D->R D):Ev->O:=(oIf (su (gBn (aS nI (aS (lw (·=="tuple")) (rvz 0)))) (gB2 neF (gOf eZ (aa (rvz 0) nlz)) (ciz 3))) (aJ (cg (fun _=>R.ok (D.bl false))) oNx) oNx)
def ki (ax ba bG:List D->R D):Ev->O:=(eB 1 (g2 ixD (rvz 0) (ciz 0)))
noncomputable def kx (ax ba bG:List D->R D):Ev->O:=(oIf (su (gBn (aS nI (bf 3 ax (aa (rvz 1) (aa (ciz 1) (aa (ciz 40) nlz)))))) (gBn (aS nI (bf 2 ba (aa (g2 ixD (rvz 0) (ciz 1)) (aa (rvz 1) nlz)))))) (aJ (cg (fun _=>R.ok (D.bl false))) oNx) oNx)
def kg (ax ba bG:List D->R D):Ev->O:=(cg (bf 3 bG (aa (g2 ixD (rvz 0) (ciz 2)) (aa (rvz 1) (aa (gOf eZ (aa (g2 ixD (rvz 0) (ciz 1)) nlz)) nlz)))))
def dH (ax ba bG:List D->R D):Ev->O:=(aJ (kn ax ba bG) (aJ (ki ax ba bG) (aJ (kx ax ba bG) (aJ (kg ax ba bG) oNx))))
theorem qR:∀ ds:List D,ds.length=1->mI ds=.no\/aK (dH xo zC oI (aN 2 ds))=mI ds:=by
 intro ds hl
 unfold dH kn ki kx kg
 match ds,hl with
 | [d],_=>
  cases d <;> first|exact Or.inl rfl|exact Or.inr rfl|skip
  rename_i xs hl
  match xs with
  | []=>exact Or.inr rfl
  | [_]=>exact Or.inr rfl
  | [_,_]=>exact Or.inr rfl
  | a::b::c::e::l=>
   refine Or.inr ?_
   show aK (aJ _ _ [some (.val (.tup (a::b::c::e::l))),none])=_
   have t1:lw (fun x=>x=="tuple") (.tup (a::b::c::e::l))=.ok (.bl true):=rfl
   have t2:nI (.bl true)=.ok true:=rfl
   have t3:eZ [.tup (a::b::c::e::l)]=some (.int (a::b::c::e::l).length):=rfl
   have t4:neF (.int (a::b::c::e::l).length) (.int 3)=some (.bl true):=by
    have:(((a::b::c::e::l).length:Int)==3)=false:=by simp;omega
    show some (D.bl (!(((a::b::c::e::l).length:Int)==3)))=_
    rw [this];rfl
   simp only [aJ,oIf,su,gBn,aS,gB2,g2,cg,gOf,aa,rd0,R.ok_bind,R.ok_out,t1,t2,t3,t4,cE,Bool.not_true,Bool.false_eq_true,if_false]
   rfl
  | [a,r,p]=>
   by_cases hf:nQ (.tup [a,r,p])=true
   ·refine Or.inr ?_
    have e2:mI [.tup [a,r,p]]=.ok (.bl (screen (.tup [a,r,p]))):=if_pos hf
    rw [e2]
    simp only [nQ,Bool.and_eq_true] at hf
    obtain ⟨⟨ha,hr⟩,hp⟩:=hf
    show aK (aJ _ _ [some (.val (.tup [a,r,p])),none])=_
    have t1:lw (fun x=>x=="tuple") (.tup [a,r,p])=.ok (.bl true):=rfl
    have t2:∀ k,nI (.bl k)=.ok k:=fun _=>rfl
    have t3:eZ [.tup [a,r,p]]=some (.int 3):=rfl
    have t4:neF (.int 3) (.int 3)=some (.bl false):=rfl
    have x0:ixD (.tup [a,r,p]) (.int 0)=some a:=rfl
    have x1:ixD (.tup [a,r,p]) (.int 1)=some r:=rfl
    have x2:ixD (.tup [a,r,p]) (.int 2)=some p:=rfl
    have s1:([some (.val (.tup [a,r,p])),none]:Ev).set 1 (some (.val a))=[some (.val (.tup [a,r,p])),some (.val a)]:=rfl
    simp only [aJ,oIf,eB,su,gBn,aS,gB2,g2,cg,gOf,aa,rd0,rd1,R.ok_bind,R.ok_out,t1,t2,t3,t4,x0,x1,x2,s1,yO,yj,cE,asB,oNx,O.seq,Bool.not_true,Bool.false_eq_true,if_false,fc ha]
    cases hi:inB a 1 40 with
    | false=>
     have:screen (.tup [a,r,p])=false:=by
      cases a <;> first|rfl|skip
      simp only [screen,hi,Bool.false_and]
     rw [this];rfl
    | true=>
     cases a <;> first|(cases hi;done)|skip
     rename_i i
     have e3:zC [r,.int i]=.ok (.bl (vT r i)):=by
      cases r <;> first|rfl|(cases hr;done)|exact if_pos hr
     cases hq:vT r i with
     | false=>
      have:screen (.tup [.int i,r,p])=false:=by simp only [screen,hi,hq,Bool.and_false,Bool.false_and]
      rw [e3,hq,this];rfl
     | true=>
      cases r <;> first|(cases hq;done)|skip
      rename_i rows
      have e4:oI [p,.int i,.int rows.length]=.ok (.bl (rW p i rows.length)):=by
       cases p <;> first|rfl|(cases hp;done)|exact if_pos hp
      have e5:screen (.tup [.int i,.tup rows,p])=rW p i rows.length:=by simp only [screen,hi,hq,Bool.and_true,Bool.true_and]
      rw [e3,hq,e5]
      show aK ((oI [p,.int i,.int rows.length]).out _ .rt |>.seq _)=_
      rw [e4];rfl
   ·exact Or.inl (if_neg hf)
def fC:List D->Option (List Int)
 | []=>some []
 | .int i::ds=>(fC ds).map (i::·)
 | _=>none
theorem fy:∀ {ds:List D} {ns:List Int},fC ds=some ns->ds=ns.map .int
 | [],ns,h=>by cases h;rfl
 | d::ds,ns,h=>by
  cases d <;> first|(cases h;done)|skip
  rename_i i
  cases q:fC ds with
  | none=>simp [fC,q] at h
  | some ms=>simp [fC,q] at h;subst h;rw [fy q];rfl
theorem eA:∀ ns:List Int,fC (ns.map .int)=some ns
 | []=>rfl
 | i::ns=>by simp [fC,eA ns]
def cell (ns:List Int) (k:Nat):Int:=if k<ns.length then ns.getD k 0 else if ns.length=0 then 0 else ns.getD (k % ns.length) 0 * 31+k
def pE:List D->R D
 | [.lst _ ds,.int k]=>match fC ds with
  | some ns=>if 0<=k then .ok (.int (cell ns k.toNat)) else .no
  | none=>.no
 | _=>.no
theorem vo {ns:List Int} (h:k<ns.length):atI (ns.map D.int) (k:Int)=some (.int (ns.getD k 0)):=by
 have e:ixN (ns.map D.int).length (k:Int)=some k:=by
  rw [List.length_map]
  simp [ixN]
  try omega
 rw [atI,e]
 simp [List.getD,h]
def mZ:Ev->O:=(oIf (gB2 ltD (rvz 1) (gOf eZ (aa (rvz 0) nlz))) (aJ (cg (g2 ixD (rvz 0) (rvz 1))) oNx) oNx)
def mR:Ev->O:=(oIf (gB2 eqF (rvz 0) (cQ (sw nlz))) (aJ (cg (ciz 0)) oNx) oNx)
def ny:Ev->O:=(cg (g2 bL (g2 fF (g2 ixD (rvz 0) (g2 xG (rvz 1) (gOf eZ (aa (rvz 0) nlz)))) (ciz 31)) (rvz 1)))
def eO:Ev->O:=(aJ mZ (aJ mR (aJ ny oNx)))
theorem ur:∀ ds:List D,ds.length=2->pE ds=.no\/aK (eO  (aN 2 ds))=pE ds:=by
 intro ds hl
 unfold eO mZ mR ny
 match ds,hl with
 | [l,kd],_=>
  cases l <;> first|exact Or.inl rfl|skip
  cases kd <;> first|exact Or.inl rfl|skip
  rename_i fz ds k hl
  cases hi:fC ds with
  | none=>refine Or.inl ?_;simp only [pE,hi]
  | some ns=>
   have e:=fy hi
   subst e
   by_cases hk:0<=k
   ·refine Or.inr ?_
    have e2:pE [.lst fz (ns.map .int),.int k]=.ok (.int (cell ns k.toNat)):=by simp only [pE,hi,hk,if_true]
    rw [e2]
    obtain ⟨n,rfl⟩:=Int.eq_ofNat_of_zero_le hk
    rw [Int.toNat_natCast]
    show aK (aJ _ _ [some (.val (.lst fz (ns.map .int))),some (.val (.int n))])=_
    have t3:eZ [.lst fz (ns.map .int)]=some (.int ns.length):=by simp [eZ]
    by_cases h1:n<ns.length
    ·have h1':(n:Int)<(ns.length:Int):=by omega
     have x1:ixD (.lst fz (ns.map .int)) (.int n)=some (.int (ns.getD n 0)):=vo h1
     simp only [aJ,oIf,gB2,g2,cg,gOf,aa,rd0,rd1,R.ok_bind,R.ok_out,t3,x1,cE,ltD,asB,h1',decide_true,if_true,O.seq,aK,cell,h1]
    ·have h1' : ¬ (n:Int)<(ns.length:Int):=by omega
     cases ns with
     | nil=>rfl
     | cons a as=>
      have t4:eqF (.lst fz ((a::as).map .int)) (.lst false [])=some (.bl false):=rfl
      have h2:n % (a::as).length<(a::as).length:=Nat.mod_lt _ (by simp)
      have x1:ixD (.lst fz ((a::as).map .int)) (.int ((n % (a::as).length:Nat):Int))=some (.int ((a::as).getD (n % (a::as).length) 0)):=vo h2
      have m1:xG (.int n) (.int (a::as).length)=some (.int ((n % (a::as).length:Nat):Int)):=by
       have:(0:Int)<((a::as).length:Int):=by simp
       simp only [xG,this,if_true];rw [Int.natCast_emod]
      have m2:∀ z:Int,fF (.int z) (.int 31)=some (.int (z * 31)):=fun z=>if_pos (Or.inr (by decide))
      have z1:(0:Nat)<=sizeLine:=Nat.zero_le _
      have z2 : ¬ (a::as).length=0:=by simp
      simp only [aJ,oIf,gB2,g2,cg,gOf,aa,cQ,sw,rd0,rd1,R.ok_bind,R.ok_out,t3,t4,x1,m1,m2,cE,ltD,bL,asB,h1',decide_false,Bool.false_eq_true,if_false,O.seq,oNx,aK,cell,h1,List.length_nil,z1,if_true,z2]
   ·refine Or.inl ?_;simp only [pE,hi,hk,if_false]
def drawn (ns:List Int) (k:Nat):Int:=(cell ns k+6151 * ((k:Int)+1)) * 40692 % 2147483399
def dn (ns:List Int) (k:Nat) (m:Int):Int:=(drawn ns k * drawn ns k+drawn ns k / 31) % 2147483629 % m
theorem bB (ns:List Int) (k:Nat) {m:Int} (h:0<m):0<=dn ns k m/\dn ns k m<m:=⟨Int.emod_nonneg _ (by omega),Int.emod_lt_of_pos _ h⟩
def bP:List D->R D
 | [.lst _ ds,.int k,.int m]=>match fC ds with
  | some ns=>if 0<=k/\0<m then .ok (.int (dn ns k.toNat m)) else .no
  | none=>.no
 | _=>.no
theorem zy {ns:List Int}:pE [.lst fz (ns.map .int),.int n]=.ok (.int (cell ns n)):=by
 simp only [pE,eA,Int.natCast_nonneg,if_true,Int.toNat_natCast]
def lC (bV:List D->R D):Ev->O:=(eB 3 (g2 xG (g2 fF (g2 bL (bf 2 bV (aa (rvz 0) (aa (rvz 1) nlz))) (g2 fF (ciz 6151) (g2 bL (rvz 1) (ciz 1)))) (ciz 40692)) (ciz 2147483399)))
def mQ (bV:List D->R D):Ev->O:=(cg (g2 xG (g2 xG (g2 bL (g2 fF (rvz 3) (rvz 3)) (g2 AG (rvz 3) (ciz 31))) (ciz 2147483629)) (rvz 2)))
def eU (bV:List D->R D):Ev->O:=(aJ (lC bV) (aJ (mQ bV) oNx))
theorem sR:∀ ds:List D,ds.length=3->bP ds=.no\/aK (eU pE (aN 4 ds))=bP ds:=by
 intro ds hl
 unfold eU lC mQ
 match ds,hl with
 | [l,kd,md],_=>
  cases l <;> first|exact Or.inl rfl|skip
  cases kd <;> first|exact Or.inl rfl|skip
  cases md <;> first|exact Or.inl rfl|skip
  rename_i fz ds k m hl
  cases hi:fC ds with
  | none=>refine Or.inl ?_;simp only [bP,hi]
  | some ns=>
   have e:=fy hi
   subst e
   by_cases hk:0<=k/\0<m
   ·refine Or.inr ?_
    have e2:bP [.lst fz (ns.map .int),.int k,.int m]=.ok (.int (dn ns k.toNat m)):=by simp only [bP,hi,hk,and_self,if_true]
    rw [e2]
    obtain ⟨hk,hm⟩:=hk
    obtain ⟨n,rfl⟩:=Int.eq_ofNat_of_zero_le hk
    rw [Int.toNat_natCast]
    show aK (aJ _ _ [some (.val (.lst fz (ns.map .int))),some (.val (.int n)),some (.val (.int m)),none])=_
    have m1:∀ z:Int,fF (.int 6151) (.int z)=some (.int (6151 * z)):=fun z=>by show (if ((-(2 ^ 64):Int)<6151/\(6151:Int)<2 ^ 64)\/((-(2 ^ 64):Int)<z/\z<2 ^ 64) then some (D.int (6151 * z)) else none)=_;exact if_pos (Or.inl (by decide))
    have m2:∀ z:Int,fF (.int z) (.int 40692)=some (.int (z * 40692)):=fun z=>if_pos (Or.inr (by decide))
    have m3:∀ z:Int,xG (.int z) (.int 2147483399)=some (.int (z % 2147483399)):=fun z=>by show (if (0:Int)<2147483399 then some (D.int (z % 2147483399)) else none)=_;exact if_pos (by decide)
    have m4:∀ z:Int,xG (.int z) (.int 2147483629)=some (.int (z % 2147483629)):=fun z=>by show (if (0:Int)<2147483629 then some (D.int (z % 2147483629)) else none)=_;exact if_pos (by decide)
    have m5:∀ z:Int,xG (.int z) (.int m)=some (.int (z % m)):=fun z=>if_pos hm
    have m6:∀ z:Int,AG (.int z) (.int 31)=some (.int (z / 31)):=fun z=>by show (if (0:Int)<31/\(31:Int)<1073741824 then some (D.int (z / 31)) else none)=_;exact if_pos (by decide)
    have m7:∀ i j:Int,bL (.int i) (.int j)=some (.int (i+j)):=fun _ _=>rfl
    have hd:0<=drawn ns n/\drawn ns n<2147483399:=⟨Int.emod_nonneg _ (by decide),Int.emod_lt_of_pos _ (by decide)⟩
    have m8:fF (.int (drawn ns n)) (.int (drawn ns n))=some (.int (drawn ns n * drawn ns n)):=if_pos (Or.inl (by omega))
    have s1:∀ v,([some (.val (.lst fz (ns.map .int))),some (.val (.int n)),some (.val (.int m)),none]:Ev).set 3 v=[some (.val (.lst fz (ns.map .int))),some (.val (.int n)),some (.val (.int m)),v]:=fun _=>rfl
    have q1:(cell ns n+6151 * ((n:Int)+1)) * 40692 % 2147483399=drawn ns n:=rfl
    simp only [aJ,eB,cg,g2,yO,rd0,rd1,rd2,rd3,R.ok_bind,R.ok_out,zy,m1,m2,m3,m4,m5,m6,m7,cE,O.seq,s1,q1,m8,aK,dn]
   ·refine Or.inl ?_;simp only [bP,hi,hk,if_false]
def fT (C:Addr):List D->R D
 | [d]=>if nQ d=true then (if screen d=true then .ok .non else .ex C) else .no
 | _=>.no
def gE (cK:List D->R D) (af:Addr):Ev->O:=(oIf (gBn (aS nI (bf 1 cK (aa (rvz 0) nlz)))) (aJ (hJ af (aa (csz [116,104,105,115,32,105,115,32,110,111,32,115,99,114,101,101,110]) nlz)) oNx) oNx)
def cD (cK:List D->R D) (af:Addr):Ev->O:=(aJ (gE cK af) oNx)
theorem lZ:∀ ds:List D,ds.length=1->fT C ds=.no\/aK (cD mI C (aN 1 ds))=fT C ds:=by
 intro ds hl
 unfold cD gE
 match ds,hl with
 | [d],_=>
  by_cases hf:nQ d=true
  ·refine Or.inr ?_
   have e1:mI [d]=.ok (.bl (screen d)):=if_pos hf
   have e2:fT C [d]=if screen d=true then .ok .non else .ex C:=if_pos hf
   rw [e2]
   show aK (aJ _ _ [some (.val d)])=_
   have t2:∀ k,nI (.bl k)=.ok k:=fun _=>rfl
   simp only [aJ,oIf,hJ,gBn,aS,Bf,rd0,R.ok_bind,R.ok_out,e1,t2]
   cases screen d <;> rfl
  ·exact Or.inl (if_neg hf)
theorem DF {α:Type} (n:Nat) (x:α):(List.replicate n [x]).flatten=List.replicate n x:=by
 induction n with
 | zero=>rfl
 | succ n ih=>rw [List.replicate_succ,List.flatten_cons,ih];rfl
theorem bT {ns:List Int} {m:Int} (h:0<m):bP [.lst fz (ns.map .int),.int n,.int m]=.ok (.int (dn ns n m)):=by
 simp only [bP,eA,Int.natCast_nonneg,h,and_self,if_true,Int.toNat_natCast]
def sgn (ns:List Int) (k:Nat):Nat:=([32,32,97,98,35]:List Nat).getD (dn ns k 5).toNat 0
theorem FN (ns:List Int) (k:Nat):ixD (.str [32,32,97,98,35]) (.int (dn ns k 5))=some (.str [sgn ns k]):=by
 have h:=bB ns k (m:=5) (by decide)
 unfold sgn
 generalize dn ns k 5=v at h
 have:v=0\/v=1\/v=2\/v=3\/v=4:=by omega
 rcases this with rfl|rfl|rfl|rfl|rfl <;> rfl
theorem xD (ns:List Int) (k:Nat):32<=sgn ns k/\sgn ns k<=126:=by
 have h:=bB ns k (m:=5) (by decide)
 unfold sgn
 generalize dn ns k 5=v at h
 have:v=0\/v=1\/v=2\/v=3\/v=4:=by omega
 rcases this with rfl|rfl|rfl|rfl|rfl <;> decide
def Ax:Ev->O:=aJ (eB 3 (g2 bL (rvz 3) (g2 ixD (fun x=>R.ok (D.str [32,32,97,98,35])) (bf 3 bP (aa (rvz 0) (aa (g2 bL (g2 bL (rvz 1) fun x=>R.ok (D.int 1)) fun Z=>rdV Z 4) (aa (fun x=>R.ok (D.int 5)) fun x=>R.ok []))))))) oNx
theorem vA (ns:List Int) (fz:Bool) (a:Nat) (W:Option Sl):∀ (ks:List Nat) (x:List Nat) (kk:Option Sl),x.length+ks.length<=sizeLine->
  ∃ kk',dF (jM 4) Ax (ks.map fun i=>D.int (0+(i:Nat))) [some (.val (.lst fz (ns.map .int))),some (.val (.int a)),W,some (.val (.str x)),kk,none]=.nx [some (.val (.lst fz (ns.map .int))),some (.val (.int a)),W,some (.val (.str (x++ks.map fun k=>sgn ns (a+1+k)))),kk',none]
 | [],x,kk,_=>⟨kk,by simp [dF]⟩
 | k::ks,x,kk,h=>by
  have h':(x++[sgn ns (a+1+k)]).length+ks.length<=sizeLine:=by simp at h ⊢;omega
  obtain ⟨kk',ih⟩:=vA ns fz a W ks (x++[sgn ns (a+1+k)]) (some (.val (.int (0+(k:Nat))))) h'
  refine ⟨kk',?_⟩
  have hx:x.length+1<=sizeLine:=by simp at h;omega
  have c1:((a:Int)+1+(0+(k:Int)))=((a+1+k:Nat):Int):=by omega
  have p5:∀ n:Nat,bP [.lst fz (ns.map .int),.int n,.int 5]=.ok (.int (dn ns n 5)):=fun n=>bT (by decide)
  have m7:∀ i j:Int,bL (.int i) (.int j)=some (.int (i+j)):=fun _ _=>rfl
  have m8:bL (.str x) (.str [sgn ns (a+1+k)])=some (.str (x++[sgn ns (a+1+k)])):=if_pos hx
  have hB:Ax [some (.val (.lst fz (ns.map .int))),some (.val (.int a)),W,some (.val (.str x)),some (.val (.int (0+(k:Nat)))),none]=.nx [some (.val (.lst fz (ns.map .int))),some (.val (.int a)),W,some (.val (.str (x++[sgn ns (a+1+k)]))),some (.val (.int (0+(k:Nat)))),none]:=by
   simp only [Ax,aJ,eB,g2,yj,rd0,rd1,rd3,rd4,R.ok_bind,m7,c1,p5,FN,m8,cE,R.ok_out,O.seq,oNx]
   rfl
  rw [List.map_cons,dF]
  show (match Ax [some (.val (.lst fz (ns.map .int))),some (.val (.int a)),W,some (.val (.str x)),some (.val (.int (0+(k:Nat)))),none] with
   | .nx Z2=>dF (jM 4) Ax _ Z2
   | .ct Z2=>dF (jM 4) Ax _ Z2
   | .bk Z2=>O.nx Z2
   | .rt d=>O.rt d
   | .re d Z2=>.re d Z2
   | .ex C Z2=>O.ex C Z2
   | .no=>O.no)=_
  rw [hB]
  simp only [List.map_cons]
  rw [ih,List.append_assoc]
  rfl
noncomputable def xf (ns:List Int) (a wd:Nat):List Nat:=
 if dn ns (a+20) 2=0 then (List.range wd).map fun k=>sgn ns (a+1+k) else ((List.range wd).map fun k=>sgn ns (a+1+k)).take (dn ns a (wd+1)).toNat++List.replicate (wd - (dn ns a (wd+1)).toNat) 32
theorem sM (ns:List Int) (a wd:Nat):(xf ns a wd).length=wd:=by
 have h:=bB ns a (m:=(wd:Int)+1) (by omega)
 unfold xf
 split
 ·simp
 ·simp;omega
theorem wI (ns:List Int) (a wd:Nat):plain (xf ns a wd)=true:=by
 have hm:∀ c∈(List.range wd).map (fun k=>sgn ns (a+1+k)),32<=c/\c<=126:=by
  intro c hc
  obtain ⟨k,_,rfl⟩:=List.mem_map.1 hc
  exact xD ns _
 unfold plain
 rw [List.all_eq_true]
 intro c hc
 have:32<=c/\c<=126:=by
  unfold xf at hc
  split at hc
  ·exact hm c hc
  ·rcases List.mem_append.1 hc with q|q
   ·exact hm c (List.mem_of_mem_take q)
   ·have:=(List.mem_replicate.1 q).2;omega
 simp [this.1,this.2]
def zE:List D->R D
 | [.lst _ ds,.int a,.int wd]=>match fC ds with
  | some ns=>if 0<=a/\0<=wd/\wd<=100 then .ok (.str (xf ns a.toNat wd.toNat)) else .no
  | none=>.no
 | _=>.no
theorem zd (h:wd<=100):bp [.int (wd:Int)]=.ok ((List.range wd).map fun i=>D.int (0+(i:Nat))):=by
 have e:bp [.int (wd:Int)]=if -(2 ^ 62)<=(wd:Int)/\(wd:Int)<2 ^ 62 then .ok ((List.range (wd:Int).toNat).map fun i=>D.int (0+(i:Nat))) else .no:=by simp only [bp]
 rw [e,if_pos (by constructor <;> omega),Int.toNat_natCast]
theorem GV {ns:List Int} {a:Nat}:bP [.lst fz (ns.map .int),.int ((a+20:Nat):Int),.int 2]=.ok (.int (dn ns (a+20) 2)):=bT (by decide)
noncomputable def bO (pk:List D->R D):Ev->O:=aJ (eB 5 (bf 3 pk (aa (rvz 0) (aa (rvz 1) (aa (g2 bL (rvz 2) fun x=>R.ok (D.int 1)) fun x=>R.ok [])))))
 (aJ (cg (gIf (gB2 eqF (bf 3 pk (aa (rvz 0) (aa (g2 bL (rvz 1) fun x=>R.ok (D.int 20)) (aa (fun x=>R.ok (D.int 2)) fun x=>R.ok [])))) fun x=>R.ok (D.int 0)) (rvz 3)
  (g2 bL (gSl (rvz 3) (fun x=>R.ok none) (jI fun Z=>rdV Z 5)) (g2 fF (fun x=>R.ok (D.str [32])) (g2 xh (rvz 2) fun Z=>rdV Z 5))))) oNx)
theorem yW (h:n<=100):fF (.str [32]) (.int (n:Int))=some (.str (List.replicate n 32)):=by
 have hz:(100:Nat)<=sizeLine:=by decide
 have e:[32]=[32]:=rfl
 rw [e,<- DF n 32]
 simp only [fF]
 rw [if_pos (by refine ⟨by omega,by omega,?_⟩;simp;omega),Int.toNat_natCast]
theorem CW (pk:List D->R D) (S:D) (a wd l:Nat) (z:Int) (x:List Nat) (kk:Option Sl) (h1:pk [S,.int a,.int ((wd:Int)+1)]=.ok (.int (l:Int))) (h2:pk [S,.int ((a:Int)+20),.int 2]=.ok (.int z)) (hx:x.length=wd) (hw:wd<=100) (hl:l<=wd) :
  bO pk [some (.val S),some (.val (.int a)),some (.val (.int wd)),some (.val (.str x)),kk,none]=.rt (.str (if z=0 then x else x.take l++List.replicate (wd - l) 32)):=by
 have c1:(wd:Int) - (l:Int)=((wd - l:Nat):Int):=by omega
 have m1:fF (.str [32]) (.int ((wd - l:Nat):Int))=some (.str (List.replicate (wd - l) 32)):=yW (by omega)
 have m2:bL (.str (x.take l)) (.str (List.replicate (wd - l) 32))=some (.str (x.take l++List.replicate (wd - l) 32)):=sC (by have:=bo;simp;omega)
 have m3:=uc x l
 unfold bO
 clear hx hw hl
 walk_at "run"
 by_cases hz:z=0
 ·simp only [hz,if_true,beq_self_eq_true,R.ok_out,GE]
 ·have:(z==0)=false:=by simp [hz]
  simp only [hz,this,if_false,Bool.false_eq_true,R.ok_out,GE]
def oh (ao:List D->R D):Ev->O:=(eB 3 (csz []))
def vP (ao:List D->R D):Ev->O:=(aJ (eB 3 (g2 bL (rvz 3) (g2 ixD (csz [32,32,97,98,35]) (bf 3 ao (aa (rvz 0) (aa (g2 bL (g2 bL (rvz 1) (ciz 1)) (rvz 4)) (aa (ciz 5) nlz))))))) oNx)
def oy (ao:List D->R D):Ev->O:=(sv (jM 4) (aS bp (aa (rvz 2) nlz)) (vP ao))
def oq (ao:List D->R D):Ev->O:=(eB 5 (bf 3 ao (aa (rvz 0) (aa (rvz 1) (aa (g2 bL (rvz 2) (ciz 1)) nlz)))))
noncomputable def ou (ao:List D->R D):Ev->O:=(cg (gIf (gB2 eqF (bf 3 ao (aa (rvz 0) (aa (g2 bL (rvz 1) (ciz 20)) (aa (ciz 2) nlz)))) (ciz 0)) (rvz 3) (g2 bL (gSl (rvz 3) (fun _=>R.ok none) (jI (rvz 5))) (g2 fF (csz [32]) (g2 xh (rvz 2) (rvz 5))))))
def fm (ao:List D->R D):Ev->O:=(aJ (oh ao) (aJ (oy ao) (aJ (oq ao) (aJ (ou ao) oNx))))
theorem wM:∀ ds:List D,ds.length=3->zE ds=.no\/aK (fm bP (aN 6 ds))=zE ds:=by
 intro ds hl
 unfold fm oh oy oq ou
 match ds,hl with
 | [l,ad,wd],_=>
  cases l <;> first|exact Or.inl rfl|skip
  cases ad <;> first|exact Or.inl rfl|skip
  cases wd <;> first|exact Or.inl rfl|skip
  rename_i fz ds a wd hl
  cases hi:fC ds with
  | none=>refine Or.inl ?_;simp only [zE,hi]
  | some ns=>
   have e:=fy hi
   subst e
   by_cases hk:0<=a/\0<=wd/\wd<=100
   ·refine Or.inr ?_
    have e2:zE [.lst fz (ns.map .int),.int a,.int wd]=.ok (.str (xf ns a.toNat wd.toNat)):=by simp only [zE,hi,hk,and_self,if_true]
    rw [e2]
    obtain ⟨ha,hw,hw2⟩:=hk
    obtain ⟨a,rfl⟩:=Int.eq_ofNat_of_zero_le ha
    obtain ⟨wd,rfl⟩:=Int.eq_ofNat_of_zero_le hw
    rw [Int.toNat_natCast,Int.toNat_natCast]
    have hw3:wd<=100:=by omega
    show aK (aJ (eB 3 (csz [])) (aJ (sv (jM 4) (aS bp (aa (rvz 2) fun _=>R.ok [])) Ax) (bO bP)) [some (.val (.lst fz (ns.map .int))),some (.val (.int a)),some (.val (.int wd)),none,none,none])=_
    obtain ⟨kk',hL⟩:=vA ns fz a (some (.val (.int wd))) (List.range wd) [] none (by have:=bo;simp;omega)
    have s2:sv (jM 4) (aS bp (aa (rvz 2) fun _=>R.ok [])) Ax [some (.val (.lst fz (ns.map .int))),some (.val (.int a)),some (.val (.int wd)),some (.val (.str [])),none,none]=.nx [some (.val (.lst fz (ns.map .int))),some (.val (.int a)),some (.val (.int wd)),some (.val (.str ([]++(List.range wd).map fun k=>sgn ns (a+1+k)))),kk',none]:=by
     rw [Ez,Br,yH,show ∀ i Z,rvz i Z=rdV Z i from fun _ _=>rfl,rd2,R.ok_bind,R.ok_bind,R.ok_bind,zd hw3,R.ok_out]
     exact hL
    have hp:=bB ns a (m:=(wd:Int)+1) (by omega)
    have s3:=CW bP (.lst fz (ns.map .int)) a wd (dn ns a ((wd:Int)+1)).toNat (dn ns (a+20) 2) ([]++(List.range wd).map fun k=>sgn ns (a+1+k)) kk'
     (by rw [Int.toNat_of_nonneg hp.1];exact bT (by omega)) (by exact GV) (by simp) hw3 (by omega)
    rw [jT,Ep,R.ok_out,rj,jT]
    show aK ((sv (jM 4) _ Ax [some (.val (.lst fz (ns.map .int))),some (.val (.int a)),some (.val (.int wd)),some (.val (.str [])),none,none]).seq _)=_
    rw [s2,rj,s3,IC]
    unfold xf
    rw [List.nil_append]
   ·refine Or.inl ?_;simp only [zE,hi,hk,if_false]
theorem AF {ns:List Int} {a:Nat} (h:wd<=100):zE [.lst fz (ns.map .int),.int (a:Int),.int (wd:Int)]=.ok (.str (xf ns a wd)):=by
 have h2:(wd:Int)<=100:=by omega
 simp only [zE,eA,Int.natCast_nonneg,h2,and_self,if_true,Int.toNat_natCast]
def tj (ns:List Int) (a wd m:Nat):List D:=(List.range m).map fun k=>.str (xf ns (a+30 * k) wd)
def Hk (ns:List Int) (a wd m:Nat):D:=.tup [.int wd,.tup (tj ns a wd m),.tup [.int (dn ns (a+400) m),.int (dn ns (a+401) (wd+1))]]
def nV:List D->R D
 | [.lst _ ds,.int a,.int wd,.int m]=>match fC ds with
  | some ns=>if (0<=a/\0<=wd/\wd<=100)/\0<m/\m<=100 then .ok (Hk ns a.toNat wd.toNat m.toNat) else .no
  | none=>.no
 | _=>.no
def iL (cm ao:List D->R D):Ev->O:=(eB 4 (gOf ju (aa (cQ (kJ (aS bp (aa (rvz 3) nlz)) [0,1,2] (fun _=>R.ok true) (bf 3 cm (aa (rvz 1) (aa (g2 bL (rvz 2) (g2 fF (ciz 30) (rvz 0))) (aa (rvz 3) nlz)))))) nlz)))
noncomputable def jy (cm ao:List D->R D):Ev->O:=(cg (aS mkT (aa (rvz 2) (aa (rvz 4) (aa (aS mkT (aa (bf 3 ao (aa (rvz 0) (aa (g2 bL (rvz 1) (ciz 400)) (aa (rvz 3) nlz)))) (aa (bf 3 ao (aa (rvz 0) (aa (g2 bL (rvz 1) (ciz 401)) (aa (g2 bL (rvz 2) (ciz 1)) nlz)))) nlz))) nlz)))))
def dj (cm ao:List D->R D):Ev->O:=(aJ (iL cm ao) (aJ (jy cm ao) oNx))
theorem pD:∀ ds:List D,ds.length=4->nV ds=.no\/aK (dj zE bP (aN 5 ds))=nV ds:=by
 intro ds hl
 unfold dj iL jy
 match ds,hl with
 | [l,ad,wd,md],_=>
  cases l <;> first|exact Or.inl rfl|skip
  cases ad <;> first|exact Or.inl rfl|skip
  cases wd <;> first|exact Or.inl rfl|skip
  cases md <;> first|exact Or.inl rfl|skip
  rename_i fz ds a wd m hl
  cases hi:fC ds with
  | none=>refine Or.inl ?_;simp only [nV,hi]
  | some ns=>
   have e:=fy hi
   subst e
   by_cases hk:(0<=a/\0<=wd/\wd<=100)/\0<m/\m<=100
   ·refine Or.inr ?_
    have e2:nV [.lst fz (ns.map .int),.int a,.int wd,.int m]=.ok (Hk ns a.toNat wd.toNat m.toNat):=by simp only [nV,hi,hk,and_self,if_true]
    rw [e2]
    obtain ⟨⟨ha,hw,hw2⟩,hm,hm2⟩:=hk
    obtain ⟨a,rfl⟩:=Int.eq_ofNat_of_zero_le ha
    obtain ⟨wd,rfl⟩:=Int.eq_ofNat_of_zero_le hw
    obtain ⟨m,rfl⟩:=Int.eq_ofNat_of_zero_le (Int.le_of_lt hm)
    rw [Int.toNat_natCast,Int.toNat_natCast,Int.toNat_natCast]
    have hw3:wd<=100:=by omega
    have hm3:m<=100:=by omega
    have e:jp (fun _=>R.ok true) (bf 3 zE (aa (rvz 1) (aa (g2 bL (rvz 2) (g2 fF (ciz 30) fun Z=>rdV Z 0)) (aa (rvz 3) fun _=>R.ok []))))
      ((List.range m).map fun (i:Nat)=>D.int (i:Int)) [none,some (.val (.lst fz (ns.map .int))),some (.val (.int a)),some (.val (.int wd))]=.ok (((List.range m).map fun (i:Nat)=>D.int (i:Int)).map fun d=>match d with|.int k=>.str (xf ns (a+30 * k.toNat) wd)|d=>d):=by
     refine gq _ _ _ none fun d hd=>⟨rfl,?_⟩
     obtain ⟨k,_,rfl⟩:=List.mem_map.1 hd
     have m1:fF (.int 30) (.int (k:Int))=some (.int ((30 * k:Nat):Int)):=by rw [FT (by decide)];congr 2
     have m2:(a:Int)+((30 * k:Nat):Int)=((a+30 * k:Nat):Int):=by omega
     have m3:=AF (fz:=fz) (ns:=ns) (a:=a+30 * k) hw3
     walk_at "run"
     simp only [Int.toNat_natCast]
    show aK (aJ _ _ [some (.val (.lst fz (ns.map .int))),some (.val (.int a)),some (.val (.int wd)),some (.val (.int m)),none])=_
    have i1:kN [0,1,2] [some (.val (.lst fz (ns.map .int))),some (.val (.int a)),some (.val (.int wd)),some (.val (.int m)),none]=[none,some (.val (.lst fz (ns.map .int))),some (.val (.int a)),some (.val (.int wd))]:=rfl
    have r1:bp [.int (m:Int)]=.ok ((List.range m).map fun (i:Nat)=>D.int (i:Int)):=gR (by omega)
    have z1:(((List.range m).map fun (i:Nat)=>D.int (i:Int)).map fun d=>match d with|.int k=>.str (xf ns (a+30 * k.toNat) wd)|d=>d)=tj ns a wd m:=by
     rw [List.map_map];unfold tj;refine List.map_congr_left fun k _=>?_;simp
    have z2:(tj ns a wd m).length<=sizeLine:=by have:=bo;unfold tj;simp;omega
    have p1:bP [.lst fz (ns.map .int),.int ((a:Int)+400),.int (m:Int)]=.ok (.int (dn ns (a+400) m)):=by have:=bT (fz:=fz) (ns:=ns) (n:=a+400) (m:=m) (by omega);exact this
    have p2:bP [.lst fz (ns.map .int),.int ((a:Int)+401),.int ((wd:Int)+1)]=.ok (.int (dn ns (a+401) (wd+1))):=by have:=bT (fz:=fz) (ns:=ns) (n:=a+401) (m:=(wd:Int)+1) (by omega);exact this
    have k1:∀ x:List D,ju [.lst false x]=some (.tup x):=fun _=>rfl
    have k2:∀ x y:D,mkT [x,y]=.ok (.tup [x,y]):=fun _ _=>m_t (by simp)
    have k3:∀ x y z:D,mkT [x,y,z]=.ok (.tup [x,y,z]):=fun _ _ _=>m_t (by simp)
    rw [z1] at e
    clear hi hl e2 hw hw2 hm hm2 hw3 hm3 z1
    walk_at "run"
    rfl
   ·refine Or.inl ?_;simp only [nV,hi,hk,if_false]
def cl:Nat->D->Bool
 | 0,_=>false
 | _+1,.exc _=>false
 | n+1,.tup xs=>xs.all (cl n)
 | n+1,.lst _ xs=>xs.all (cl n)
 | _+1,_=>true
theorem pV {f:D->D->Option Bool}:∀ xs:List D,(∀ x∈xs,f x x=some true)->eqZ f xs xs=some (xs.map fun _=>true)
 | [],_=>rfl
 | x::xs,h=>by
  rw [eqZ,h x (List.mem_cons_self ..),pV xs fun y hy=>h y (List.mem_cons_of_mem _ hy)];rfl
theorem qi {α:Type}:∀ xs:List α,(xs.map fun _=>true).all id=true
 | []=>rfl
 | _::xs=>by rw [List.map_cons,List.all_cons,qi xs];rfl
theorem qh:∀ (n m:Nat) (d:D),n<=m->cl n d=true->eqD m d d=some true
 | 0,_,_,_,h=>by simp [cl] at h
 | n+1,0,_,h,_=>by omega
 | n+1,m+1,d,hm,h=>by
  cases d <;> first|(simp [cl] at h;done)|(simp [eqD];done)|skip
  ·rename_i xs
   simp only [cl,List.all_eq_true] at h
   have:=pV (f:=eqD m) xs fun x hx=>qh n m x (by omega) (h x hx)
   simp only [eqD,this,Option.map_some,qi,beq_self_eq_true,Bool.and_true]
  ·rename_i fz xs
   simp only [cl,List.all_eq_true] at h
   have:=pV (f:=eqD m) xs fun x hx=>qh n m x (by omega) (h x hx)
   simp only [eqD,if_true,this,Option.map_some,qi]
theorem gh (h:cl 10 d=true):neF d d=some (.bl false):=by
 unfold neF;rw [qh 10 40 d (by omega) h];rfl
end Q
namespace Q
open L2
open PySem (sizeLine Addr)
def IR:List Nat->D->D->Option D
 | [],_,v=>some v
 | k::ks,.tup xs,v=>match xs[k]? with
  | some x=>if xs.length<=1000 then (IR ks x v).map fun y=>.tup (xs.take k++[y]++xs.drop (k+1)) else none
  | none=>none
 | _,_,_=>none
def FD:List D->Option (List Nat)
 | []=>some []
 | .int i::ds=>if 0<=i then (FD ds).map (i.toNat::·) else none
 | _::_=>none
def oO (n:Nat):List D->R D
 | [d,.tup p,v]=>match FD p with
  | some ks=>if ks.length<n/\n<=500 then ofO (IR ks d v) else .no
  | none=>.no
 | _=>.no
def pt:Nat->D->Bool
 | 0,_=>false
 | _+1,.int _=>true
 | _+1,.str x=>decide (x.length<=900)
 | n+1,.tup xs=>xs.all (pt n) && decide (xs.length<=900)
 | _+1,_=>false
def good:Nat->D->Bool
 | 0,_=>true
 | _+1,.exc _=>false
 | _+1,.str x=>decide (x.length<=1000)
 | n+1,.tup xs=>xs.all (good n)
 | n+1,.lst _ xs=>xs.all (good n)
 | _+1,_=>true
theorem zm (h:good 4 d=true):nQ d=true:=by
 cases d <;> first|(simp [good] at h;done)|rfl|skip
 rename_i xs
 match xs,h with
 | [],_=>rfl
 | [_],_=>rfl
 | [_,_],_=>rfl
 | _::_::_::_::_,_=>rfl
 | [a,r,p],h=>
  simp only [good,List.all_cons,List.all_nil,Bool.and_true,Bool.and_eq_true] at h
  obtain ⟨ha,hr,hp⟩:=h
  have l1:=bo
  have na:jV a=true:=by cases a <;> first|(simp [good] at ha;done)|rfl
  simp only [nQ,Bool.and_eq_true]
  refine ⟨⟨na,?_⟩,?_⟩
  ·cases r <;> first|(simp [good] at hr;done)|rfl|skip
   rename_i xs
   simp only [good,List.all_eq_true] at hr
   show xs.all DG=true
   rw [List.all_eq_true]
   intro x hx
   have:=hr x hx
   cases x <;> first|(simp [good] at this;done)|rfl|skip
   simp only [good,decide_eq_true_eq] at this
   simp only [DG,decide_eq_true_eq];omega
  ·cases p <;> first|(simp [good] at hp;done)|rfl|skip
   rename_i xs
   simp only [good,List.all_eq_true] at hp
   show xs.all jV=true
   rw [List.all_eq_true]
   intro x hx
   have:=hp x hx
   cases x <;> first|(simp [good] at this;done)|rfl
end Q
namespace Q
open L2
open PySem (sizeLine Addr)
noncomputable def qw (bw:List D->R D):Ev->O:=(cg (ql (g2 eqF (gOf eZ (aa (rvz 0) nlz)) (ciz 2)) (ql (g2 eqF (g2 ixD (rvz 0) (ciz 0)) (csz [115,97,121])) (ql (bf 1 bw (aa (g2 ixD (rvz 0) (ciz 1)) nlz)) (g3 leD leD (ciz 1) (gOf eZ (aa (g2 ixD (rvz 0) (ciz 1)) nlz)) (ciz 40))))))
def gS (bw:List D->R D):Ev->O:=(aJ (qw bw) oNx)
def uN (ax:List D->R D):Ev->O:=(oIf (su (gB2 neF (gOf eZ (aa (rvz 0) nlz)) (ciz 3)) (gB2 neF (g2 ixD (rvz 0) (ciz 0)) (csz [103,111]))) (aJ (cg (fun _=>R.ok (D.bl false))) oNx) oNx)
def vg (ax:List D->R D):Ev->O:=(cg (ql (bf 3 ax (aa (g2 ixD (rvz 0) (ciz 1)) (aa (ciz 0) (aa (g2 xh (ciz 12) (ciz 1)) nlz)))) (bf 3 ax (aa (g2 ixD (rvz 0) (ciz 2)) (aa (ciz 0) (aa (ciz 40) nlz))))))
def ja (ax:List D->R D):Ev->O:=(aJ (uN ax) (aJ (vg ax) oNx))
def mi (dL fw:List D->R D):Ev->O:=(oIf (gBn (aS nI (aS (lw (·=="tuple")) (rvz 0)))) (aJ (cg (fun _=>R.ok (D.bl false))) oNx) oNx)
def mC (dL fw:List D->R D):Ev->O:=(cg (gOr (bf 1 dL (aa (rvz 0) nlz)) (gOr (bf 1 fw (aa (rvz 0) nlz)) (g2 eqF (rvz 0) (aS mkT (aa (csz [119,105,112,101]) nlz))))))
def eM (dL fw:List D->R D):Ev->O:=(aJ (mi dL fw) (aJ (mC dL fw) oNx))
def ij (db:List D->R D) (ar:Addr):Ev->O:=(oIf (gBn (aS nI (bf 1 db (aa (rvz 0) nlz)))) (aJ (hJ ar (aa (csz [116,104,105,115,32,105,115,32,110,111,32,111,114,100,101,114]) nlz)) oNx) oNx)
def cU (db:List D->R D) (ar:Addr):Ev->O:=(aJ (ij db ar) oNx)
def dD:Ev->O:=(eB 3 (g2 ixD (g2 ixD (rvz 0) (ciz 2)) (ciz 0)))
def dC:Ev->O:=(eB 4 (g2 bL (g2 bL (gSl (g2 ixD (rvz 0) (ciz 1)) (fun _=>R.ok none) (jI (rvz 3))) (aS mkT (aa (rvz 1) nlz))) (gSl (g2 ixD (rvz 0) (ciz 1)) (jI (g2 bL (rvz 3) (ciz 1))) (fun _=>R.ok none))))
def dB:Ev->O:=(cg (aS mkT (aa (g2 ixD (rvz 0) (ciz 0)) (aa (rvz 4) (aa (aS mkT (aa (rvz 3) (aa (rvz 2) nlz))) nlz)))))
def bM:Ev->O:=(aJ dD (aJ dC (aJ dB oNx)))
def kf (au:List D->R D) (ak:Addr):Ev->O:=(eB 2 (g2 ixD (g2 ixD (rvz 0) (ciz 1)) (g2 ixD (g2 ixD (rvz 0) (ciz 2)) (ciz 0))))
def kz (au:List D->R D) (ak:Addr):Ev->O:=(eB 3 (g2 ixD (g2 ixD (rvz 0) (ciz 2)) (ciz 1)))
def km (au:List D->R D) (ak:Addr):Ev->O:=(eB 4 (g2 bL (rvz 3) (gOf eZ (aa (rvz 1) nlz))))
noncomputable def ko (au:List D->R D) (ak:Addr):Ev->O:=(oIf (gB2 gtD (rvz 4) (g2 ixD (rvz 0) (ciz 0))) (aJ (hJ ak (aa (csz [116,104,101,32,116,101,120,116,32,105,115,32,119,105,100,101,114,32,116,104,97,110,32,119,104,97,116,32,105,115,32,108,101,102,116,32,111,102,32,116,104,101,32,114,111,119]) nlz)) oNx) oNx)
def kj (au:List D->R D) (ak:Addr):Ev->O:=(cg (bf 3 au (aa (rvz 0) (aa (g2 bL (g2 bL (gSl (rvz 2) (fun _=>R.ok none) (jI (rvz 3))) (rvz 1)) (gSl (rvz 2) (jI (rvz 4)) (fun _=>R.ok none))) (aa (rvz 4) nlz)))))
def dP (au:List D->R D) (ak:Addr):Ev->O:=(aJ (kf au ak) (aJ (kz au ak) (aJ (km au ak) (aJ (ko au ak) (aJ (kj au ak) oNx)))))
noncomputable def mj (ak:Addr):Ev->O:=(oIf (su (gB2 geD (rvz 1) (gOf eZ (aa (g2 ixD (rvz 0) (ciz 1)) nlz))) (gB2 gtD (rvz 2) (g2 ixD (rvz 0) (ciz 0)))) (aJ (hJ ak (aa (csz [116,104,101,32,115,99,114,101,101,110,32,100,111,101,115,32,110,111,116,32,104,97,118,101,32,116,104,105,115,32,112,108,97,99,101]) nlz)) oNx) oNx)
def ma (ak:Addr):Ev->O:=(cg (aS mkT (aa (g2 ixD (rvz 0) (ciz 0)) (aa (g2 ixD (rvz 0) (ciz 1)) (aa (aS mkT (aa (rvz 1) (aa (rvz 2) nlz))) nlz)))))
def eP (ak:Addr):Ev->O:=(aJ (mj ak) (aJ (ma ak) oNx))
def jk (au:List D->R D):Ev->O:=(eB 1 (g2 ixD (g2 ixD (rvz 0) (ciz 1)) (g2 ixD (g2 ixD (rvz 0) (ciz 2)) (ciz 0))))
def iX (au:List D->R D):Ev->O:=(eB 2 (g2 ixD (g2 ixD (rvz 0) (ciz 2)) (ciz 1)))
def iK (au:List D->R D):Ev->O:=(cg (bf 3 au (aa (rvz 0) (aa (pN "str" oz (gSl (rvz 1) (fun _=>R.ok none) (jI (rvz 2))) (aa (g2 ixD (rvz 0) (ciz 0)) nlz)) (aa (rvz 2) nlz)))))
def dk (au:List D->R D):Ev->O:=(aJ (jk au) (aJ (iX au) (aJ (iK au) oNx)))
def hY (bK bS bA:List D->R D):Ev->O:=(oIf (gB2 eqF (g2 ixD (rvz 1) (ciz 0)) (csz [115,97,121])) (aJ (cg (bf 2 bK (aa (rvz 0) (aa (g2 ixD (rvz 1) (ciz 1)) nlz)))) oNx) oNx)
def ii (bK bS bA:List D->R D):Ev->O:=(oIf (gB2 eqF (g2 ixD (rvz 1) (ciz 0)) (csz [103,111])) (aJ (cg (bf 3 bS (aa (rvz 0) (aa (g2 ixD (rvz 1) (ciz 1)) (aa (g2 ixD (rvz 1) (ciz 2)) nlz))))) oNx) oNx)
def il (bK bS bA:List D->R D):Ev->O:=(cg (bf 1 bA (aa (rvz 0) nlz)))
def cT (bK bS bA:List D->R D):Ev->O:=(aJ (hY bK bS bA) (aJ (ii bK bS bA) (aJ (il bK bS bA) oNx)))
def ya (aw bv br:List D->R D):Ev->O:=(wm (bf 1 aw (aa (rvz 0) nlz)))
def yp (aw bv br:List D->R D):Ev->O:=(wm (bf 1 bv (aa (rvz 1) nlz)))
def xV (aw bv br:List D->R D):Ev->O:=(cg (bf 2 br (aa (rvz 0) (aa (rvz 1) nlz))))
def kW (aw bv br:List D->R D):Ev->O:=(aJ (ya aw bv br) (aJ (yp aw bv br) (aJ (xV aw bv br) oNx)))
def lq:Ev->O:=(D2 (zD [2,3,4]) (rvz 0))
noncomputable def mq:Ev->O:=(oIf (gB2 eqF (g2 ixD (rvz 1) (ciz 0)) (csz [103,111])) (aJ (eB 5 (ql (g2 ltD (g2 ixD (rvz 1) (ciz 1)) (gOf eZ (aa (rvz 3) nlz))) (g2 leD (g2 ixD (rvz 1) (ciz 2)) (rvz 2)))) (aJ (cg (gIf (aS nI (rvz 5)) (aS mkT (aa (rvz 2) (aa (rvz 3) (aa (aS mkT (aa (g2 ixD (rvz 1) (ciz 1)) (aa (g2 ixD (rvz 1) (ciz 2)) nlz))) nlz)))) (csz [110,111,32,114,111,111,109]))) oNx)) oNx)
def me:Ev->O:=(eB 6 (gIf (gB2 eqF (g2 ixD (rvz 1) (ciz 0)) (csz [115,97,121])) (g2 ixD (rvz 1) (ciz 1)) (g2 fF (csz [32]) (g2 xh (rvz 2) (g2 ixD (rvz 4) (ciz 1))))))
def mO:Ev->O:=(eB 7 (g2 bL (g2 ixD (rvz 4) (ciz 1)) (gOf eZ (aa (rvz 6) nlz))))
def mf:Ev->O:=(oIf (gB2 gtD (rvz 7) (rvz 2)) (aJ (cg (csz [110,111,32,114,111,111,109])) oNx) oNx)
def lL:Ev->O:=(eB 8 (g2 ixD (rvz 3) (g2 ixD (rvz 4) (ciz 0))))
def lR:Ev->O:=(eB 8 (g2 bL (g2 bL (gSl (rvz 8) (fun _=>R.ok none) (jI (g2 ixD (rvz 4) (ciz 1)))) (rvz 6)) (gSl (rvz 8) (jI (rvz 7)) (fun _=>R.ok none))))
def lV:Ev->O:=(eB 9 (g2 bL (g2 bL (gSl (rvz 3) (fun _=>R.ok none) (jI (g2 ixD (rvz 4) (ciz 0)))) (aS mkT (aa (rvz 8) nlz))) (gSl (rvz 3) (jI (g2 bL (g2 ixD (rvz 4) (ciz 0)) (ciz 1))) (fun _=>R.ok none))))
def mh:Ev->O:=(cg (aS mkT (aa (rvz 2) (aa (rvz 9) (aa (aS mkT (aa (g2 ixD (rvz 4) (ciz 0)) (aa (gIf (gB2 eqF (g2 ixD (rvz 1) (ciz 0)) (csz [115,97,121])) (rvz 7) (g2 ixD (rvz 4) (ciz 1))) nlz))) nlz)))))
def eT:Ev->O:=(aJ lq (aJ mq (aJ me (aJ mO (aJ mf (aJ lL (aJ lR (aJ lV (aJ mh oNx)))))))))
def iB:D->Bool
 | .tup [.str x,.str y]=>(x==[115,97,121]) && (plain y && (decide (1<=y.length) && decide (y.length<=40)))
 | _=>false
def qp:D->Bool
 | .tup [.str x,b,c]=>(x==[103,111]) && (inB b 0 11 && inB c 0 40)
 | _=>false
def fJ:D->Bool
 | .tup [.str x]=>x==[119,105,112,101]
 | _=>false
def dQ (d:D):Bool:=iB d || (qp d || fJ d)
def Gh:List D->R D
 | [.tup xs]=>if good 3 (.tup xs)=true then .ok (.bl (iB (.tup xs))) else .no
 | _=>.no
def goF:List D->R D
 | [.tup xs]=>if good 3 (.tup xs)=true then .ok (.bl (qp (.tup xs))) else .no
 | _=>.no
def yh:List D->R D
 | [d]=>if good 3 d=true then .ok (.bl (dQ d)) else .no
 | _=>.no
def qS (C:Addr):List D->R D
 | [d]=>if good 3 d=true then (if dQ d=true then .ok .non else .ex C) else .no
 | _=>.no
def isX (x:List Nat):D->Bool
 | .str y=>y==x
 | _=>false
def D8:D->Bool
 | .str y=>decide (1<=y.length) && decide (y.length<=40)
 | _=>false
theorem yA (a b:D):iB (.tup [a,b])=(isX ([115,97,121]) a && (B0 b && D8 b)):=by
 cases a <;> cases b <;> first|rfl|(simp only [iB,isX,B0,D8,Bool.and_false,Bool.false_and])
theorem GY (a b c:D):qp (.tup [a,b,c])=(isX ([103,111]) a && (inB b 0 11 && inB c 0 40)):=by
 cases a <;> first|rfl|(simp only [qp,isX,Bool.false_and])
theorem CG (a:D):fJ (.tup [a])=isX ([119,105,112,101]) a:=by
 cases a <;> rfl
theorem FQ (h:jV d=true) (x:List Nat):eqF d (.str x)=some (.bl (isX x d)):=by
 cases d <;> first|(cases h;done)|rfl
theorem Ex (h:jV d=true) (x:List Nat):neF d (.str x)=some (.bl (!isX x d)):=by
 cases d <;> first|(cases h;done)|rfl
theorem jL (h:good (n+1) d=true):jV d=true:=by
 cases d <;> first|(simp [good] at h;done)|rfl
theorem Aj (h:good (n+1) d=true):rJ [d]=.ok (.bl (B0 d)):=by
 cases d <;> first|(simp [good] at h;done)|rfl|skip
 rename_i x
 simp only [good,decide_eq_true_eq] at h
 have:=bo
 exact if_pos (by omega)
theorem yU:∀ ds:List D,ds.length=1->Gh ds=.no\/aK (gS rJ (aN 1 ds))=Gh ds:=by
 have c1:True:=trivial
 have c2:True:=trivial
 have c3:True:=trivial
 have r1:True:=trivial
 have k1:True:=trivial
 have k3:True:=trivial
 intro ds hl
 unfold gS qw
 match ds,hl with
 | [d],_=>
  cases d <;> first|exact Or.inl rfl|skip
  rename_i xs hl
  by_cases hg:good 3 (.tup xs)=true
  ·refine Or.inr ?_
   have e2:Gh [.tup xs]=.ok (.bl (iB (.tup xs))):=if_pos hg
   rw [e2]
   show aK (aJ _ _ [some (.val (.tup xs))])=_
   clear hl e2 c1
   match xs,hg with
   | [],_=>
    have q:(((0:Nat):Int)==2)=false:=rfl
    walk_at "run"
    all_goals rfl
   | [a],_=>
    have q:(((1:Nat):Int)==2)=false:=rfl
    have e:iB (.tup [a])=false:=by cases a <;> rfl
    walk_at "run"
   | a::b::c::l,_=>
    have q:(((l.length+1+1+1:Nat):Int)==2)=false:=by simp;omega
    have e:iB (.tup (a::b::c::l))=false:=by cases a <;> cases b <;> rfl
    walk_at "run"
   | [a,b],hg=>
    simp only [good,List.all_cons,List.all_nil,Bool.and_true,Bool.and_eq_true] at hg
    have q:(((2:Nat):Int)==2)=true:=rfl
    have x0:ixD (.tup [a,b]) (.int 0)=some a:=rfl
    have x1:ixD (.tup [a,b]) (.int 1)=some b:=rfl
    have p1:=Aj hg.2
    have ea:=FQ (jL hg.1) ([115,97,121])
    rw [yA]
    cases h1:isX ([115,97,121]) a with
    | false=>
     walk_at "run"
     all_goals rfl
    | true=>
     cases h2:B0 b with
     | false=>
      walk_at "run"
      all_goals rfl
     | true=>
      cases b <;> first|(cases h2;done)|skip
      rename_i y
      simp only [D8]
      have d3:∀ n:Nat,decide ((1:Int)<=(n:Int))=decide (1<=n):=fun n=>by by_cases h:1<=n <;> simp [h] <;> omega
      have d4:∀ n:Nat,decide ((n:Int)<=(40:Int))=decide (n<=40):=fun n=>by by_cases h:n<=40 <;> simp [h] <;> omega
      clear hg
      cases h3:decide (1<=y.length) <;> cases h4:decide (y.length<=40)
      all_goals
       walk_at "run"
       try rfl
  ·exact Or.inl (if_neg hg)
theorem AO:∀ ds:List D,ds.length=1->goF ds=.no\/aK (ja xo (aN 1 ds))=goF ds:=by
 have c1:True:=trivial
 have c2:True:=trivial
 have c3:True:=trivial
 have r1:True:=trivial
 have k1:True:=trivial
 have k3:True:=trivial
 intro ds hl
 unfold ja vg uN
 match ds,hl with
 | [d],_=>
  cases d <;> first|exact Or.inl rfl|skip
  rename_i xs hl
  by_cases hg:good 3 (.tup xs)=true
  ·refine Or.inr ?_
   have e2:goF [.tup xs]=.ok (.bl (qp (.tup xs))):=if_pos hg
   rw [e2]
   show aK (aJ _ _ [some (.val (.tup xs))])=_
   clear hl e2 c1
   match xs,hg with
   | [],_=>
    have q:(((0:Nat):Int)==3)=false:=rfl
    walk_at "run"
    all_goals rfl
   | [a],_=>
    have q:(((1:Nat):Int)==3)=false:=rfl
    have e:qp (.tup [a])=false:=by cases a <;> rfl
    walk_at "run"
   | [a,b],_=>
    have q:(((2:Nat):Int)==3)=false:=rfl
    have e:qp (.tup [a,b])=false:=by cases a <;> rfl
    walk_at "run"
   | a::b::c::d::l,_=>
    have q:(((l.length+1+1+1+1:Nat):Int)==3)=false:=by simp;omega
    have e:qp (.tup (a::b::c::d::l))=false:=by cases a <;> rfl
    walk_at "run"
   | [a,b,c],hg=>
    simp only [good,List.all_cons,List.all_nil,Bool.and_true,Bool.and_eq_true] at hg
    have q:(((3:Nat):Int)==3)=true:=rfl
    have x0:ixD (.tup [a,b,c]) (.int 0)=some a:=rfl
    have x1:ixD (.tup [a,b,c]) (.int 1)=some b:=rfl
    have x2:ixD (.tup [a,b,c]) (.int 2)=some c:=rfl
    have ea:=Ex (jL hg.1) ([103,111])
    have p1:=fc (lo:=0) (hi:=11) (jL hg.2.1)
    have p2:=fc (lo:=0) (hi:=40) (jL hg.2.2)
    have m1:(12:Int) - 1=11:=rfl
    rw [GY]
    clear hg
    cases h1:isX ([103,111]) a with
    | false=>
     walk_at "run"
     all_goals rfl
    | true=>
     cases h2:inB b 0 11 <;> cases h3:inB c 0 40
     all_goals
      walk_at "run"
      try rfl
  ·exact Or.inl (if_neg hg)
theorem Dm {xs:List D} (hg:good 3 (.tup xs)=true):eqF (.tup xs) (.tup [.str [119,105,112,101]])=some (.bl (fJ (.tup xs))):=by
 match xs,hg with
 | [],_=>rfl
 | [a],hg=>
  simp only [good,List.all_cons,List.all_nil,Bool.and_true] at hg
  rw [CG]
  have:=jL hg
  cases a <;> first|(cases this;done)|skip
  all_goals simp [eqF,eqD,eqZ,isX]
 | a::b::l,hg=>
  simp only [good,List.all_cons,Bool.and_eq_true] at hg
  have:=jL hg.1
  have e:fJ (.tup (a::b::l))=false:=by cases a <;> rfl
  rw [e]
  cases a <;> first|(cases this;done)|skip
  all_goals simp [eqF,eqD,eqZ]
theorem tx:∀ ds:List D,ds.length=1->yh ds=.no\/aK (eM Gh goF (aN 1 ds))=yh ds:=by
 have c1:True:=trivial
 have c2:True:=trivial
 have c3:True:=trivial
 have r1:True:=trivial
 have k1:True:=trivial
 have k3:True:=trivial
 intro ds hl
 unfold eM mC mi
 match ds,hl with
 | [d],_=>
  by_cases hg:good 3 d=true
  ·refine Or.inr ?_
   have e2:yh [d]=.ok (.bl (dQ d)):=if_pos hg
   rw [e2]
   show aK (aJ _ _ [some (.val d)])=_
   clear hl e2 c1 c2
   cases d <;> first|(simp [good] at hg;done)|rfl|skip
   rename_i xs hl2
   clear hl2
   have y1:lw (fun x=>x=="tuple") (.tup xs)=.ok (.bl true):=rfl
   have s1:Gh [.tup xs]=.ok (.bl (iB (.tup xs))):=if_pos hg
   have s2:goF [.tup xs]=.ok (.bl (qp (.tup xs))):=if_pos hg
   have s3:=Dm hg
   have k1:∀ x,mkT [x]=.ok (.tup [x]):=fun _=>m_t (by simp)
   unfold dQ
   clear hg
   cases h1:iB (.tup xs) <;> cases h2:qp (.tup xs)
   all_goals
    walk_at "run"
    try rfl
  ·exact Or.inl (if_neg hg)
theorem nX:∀ ds:List D,ds.length=1->(qS C) ds=.no\/aK (cU yh C (aN 1 ds))=(qS C) ds:=by
 have c1:True:=trivial
 have c2:True:=trivial
 have c3:True:=trivial
 have r1:True:=trivial
 have k1:True:=trivial
 have k3:True:=trivial
 intro ds hl
 unfold cU ij
 match ds,hl with
 | [d],_=>
  by_cases hg:good 3 d=true
  ·refine Or.inr ?_
   have e1:yh [d]=.ok (.bl (dQ d)):=if_pos hg
   have e2:qS C [d]=if dQ d=true then .ok .non else .ex C:=if_pos hg
   rw [e2]
   show aK (aJ _ _ [some (.val d)])=_
   clear hl e2 c1 hg
   cases h1:dQ d
   all_goals
    walk_at "run"
    try rfl
  ·exact Or.inl (if_neg hg)
def scr (wd:Nat) (rows:List (List Nat)) (r c:Nat):D:=.tup [.int (wd:Int),.tup (rows.map .str),.tup [.int (r:Int),.int (c:Int)]]
def fg:List D->Option (List (List Nat))
 | []=>some []
 | .str x::ds=>(fg ds).map (x::·)
 | _::_=>none
theorem rf:∀ rows:List (List Nat),fg (rows.map .str)=some rows
 | []=>rfl
 | x::rows=>by simp [fg,rf rows]
theorem vx:∀ {ds:List D} {rows:List (List Nat)},fg ds=some rows->ds=rows.map .str
 | [],rows,h=>by simp [fg] at h;subst h;rfl
 | d::ds,rows,h=>by
  cases d <;> first|(simp [fg] at h;done)|skip
  rename_i x
  cases q:fg ds with
  | none=>simp [fg,q] at h
  | some ms=>simp [fg,q] at h;subst h;rw [vx q];rfl
noncomputable def iv:D->Option (Nat×List (List Nat)×Nat×Nat)
 | .tup [.int wd,.tup rows,.tup [.int r,.int c]]=>(fg rows).bind fun rs=>if (0<=wd/\wd<=100)/\0<=r/\(0<=c/\c<=wd)/\r.toNat<rs.length/\rs.length<=100/\(rs.all fun x=>decide (x.length=wd.toNat))=true then some (wd.toNat,rs,r.toNat,c.toNat) else none
 | _=>none
structure SOk (wd:Nat) (rows:List (List Nat)) (r c:Nat):Prop where
 w:wd<=100
 c:c<=wd
 r:r<rows.length
 m:rows.length<=100
 l:∀ x∈rows,x.length=wd
theorem vm {rows:List (List Nat)} {r c:Nat} (h:SOk wd rows r c):iv (scr wd rows r c)=some (wd,rows,r,c):=by
 obtain ⟨h1,h2,h3,h4,h5⟩:=h
 have h6:(rows.all fun x=>decide (x.length=wd))=true:=by rw [List.all_eq_true];intro x hx;simp [h5 x hx]
 simp only [iv,scr,rf,Option.bind_some,Int.toNat_natCast]
 rw [if_pos (by refine ⟨⟨by omega,by omega⟩,by omega,⟨by omega,by omega⟩,h3,h4,h6⟩)]
theorem gG {rows:List (List Nat)} {r c:Nat} (h:iv d=some (wd,rows,r,c)):d=scr wd rows r c/\SOk wd rows r c:=by
 unfold iv at h
 split at h
 ·rename_i w0 rs0 r0 c0
  cases q:fg rs0 with
  | none=>rw [q] at h;cases h
  | some rs=>
   rw [q,Option.bind_some] at h
   split at h
   ·rename_i hc
    cases h
    obtain ⟨⟨a1,a2⟩,a3,⟨a4,a5⟩,a6,a7,a8⟩:=hc
    rw [vx q]
    refine ⟨?_,⟨by omega,by omega,a6,a7,fun x hx=>of_decide_eq_true (List.all_eq_true.1 a8 x hx)⟩⟩
    unfold scr
    rw [Int.toNat_of_nonneg a1,Int.toNat_of_nonneg a3,Int.toNat_of_nonneg a4]
   ·cases h
 ·cases h
theorem zn {rows:List (List Nat)} {r c:Nat} (h:SOk wd rows r c):(rows.map D.str)[r]?=some (.str (rows.getD r []))/\(rows.getD r []).length=wd:=by
 have g:rows[r]?=some (rows.getD r []):=by rw [List.getElem?_eq_getElem h.r];simp [List.getD,h.r]
 refine ⟨by rw [List.getElem?_map,g];rfl,h.l _ (List.mem_of_getElem? g)⟩
theorem vd (rows:List (List Nat)) (r:Nat) (x:List Nat) (h:r<rows.length):(rows.map D.str).take r++[D.str x]++(rows.map D.str).drop (r+1)=(rows.set r x).map D.str:=by
 rw [List.set_eq_take_append_cons_drop,if_pos h]
 simp [List.map_take,List.map_drop]
def nR:List D->R D
 | [d,.str x,.int col]=>match iv d with
  | some (wd,rows,r,_)=>if 0<=col then .ok (scr wd (rows.set r x) r col.toNat) else .no
  | none=>.no
 | _=>.no
theorem gZ:∀ ds:List D,ds.length=3->nR ds=.no\/aK (bM (aN 5 ds))=nR ds:=by
 have c1:True:=trivial
 have c2:True:=trivial
 have c3:True:=trivial
 have r1:True:=trivial
 have k1:True:=trivial
 have k3:True:=trivial
 intro ds hl
 unfold bM dB dC dD
 match ds,hl with
 | [d,xd,cd],_=>
  cases xd <;> first|exact Or.inl rfl|skip
  cases cd <;> first|exact Or.inl rfl|skip
  rename_i x col hl
  cases hu:iv d with
  | none=>refine Or.inl ?_;simp only [nR,hu]
  | some q=>
   obtain ⟨wd,rows,r,c⟩:=q
   by_cases hc:0<=col
   ·refine Or.inr ?_
    have e2:nR [d,.str x,.int col]=.ok (scr wd (rows.set r x) r col.toNat):=by simp only [nR,hu];rw [if_pos hc]
    rw [e2]
    obtain ⟨rfl,ok⟩:=gG hu
    obtain ⟨j,rfl⟩:=Int.eq_ofNat_of_zero_le hc
    rw [Int.toNat_natCast]
    show aK (aJ _ _ [some (.val (scr wd rows r c)),some (.val (.str x)),some (.val (.int (j:Int))),none,none])=_
    have x0:ixD (scr wd rows r c) (.int 0)=some (.int (wd:Int)):=rfl
    have x1:ixD (scr wd rows r c) (.int 1)=some (.tup (rows.map .str)):=rfl
    have x2:ixD (scr wd rows r c) (.int 2)=some (.tup [.int (r:Int),.int (c:Int)]):=rfl
    have x3:ixD (.tup [.int (r:Int),.int (c:Int)]) (.int 0)=some (.int (r:Int)):=rfl
    have c1:=uc (rows.map D.str) r
    have c2:nT (rows.map D.str) (some ((r:Int)+1)) none=(rows.map D.str).drop (r+1):=nC _ (r+1)
    have k1:∀ x,mkT [x]=.ok (.tup [x]):=fun _=>m_t (by simp)
    have k2:∀ x y,mkT [x,y]=.ok (.tup [x,y]):=fun _ _=>m_t (by simp)
    have k3:∀ x y z,mkT [x,y,z]=.ok (.tup [x,y,z]):=fun _ _ _=>m_t (by simp)
    have a1:bL (.tup ((rows.map D.str).take r)) (.tup [.str x])=some (.tup ((rows.map D.str).take r++[.str x])):=Ao (by have:=bo;have:=ok.m;simp;omega)
    have a2:bL (.tup ((rows.map D.str).take r++[.str x])) (.tup ((rows.map D.str).drop (r+1)))=some (.tup ((rows.set r x).map D.str)):=by
     rw [<- vd rows r x ok.r];exact Ao (by have:=bo;have:=ok.m;simp;omega)
    clear hu hc e2 ok
    walk_at "run"
    all_goals rfl
   ·refine Or.inl ?_;simp only [nR,hu];rw [if_neg hc]
noncomputable def fZ (C:Addr):List D->R D
 | [d,.str x]=>match iv d with
  | some (wd,rows,r,c)=>if x.length<=900 then (if wd<c+x.length then .ex C else .ok (scr wd (rows.set r ((rows.getD r []).take c++x++(rows.getD r []).drop (c+x.length))) r (c+x.length))) else .no
  | none=>.no
 | _=>.no
theorem vv {rows:List (List Nat)} {r c:Nat} {x:List Nat} (ok:SOk wd rows r c):nR [scr wd rows r c,.str x,.int (j:Int)]=.ok (scr wd (rows.set r x) r j):=by
 simp only [nR,vm ok,Int.toNat_natCast]
 rw [if_pos (by omega)]
theorem qF:∀ ds:List D,ds.length=2->(fZ C) ds=.no\/aK (dP nR C (aN 5 ds))=(fZ C) ds:=by
 have c1:True:=trivial
 have c2:True:=trivial
 have c3:True:=trivial
 have r1:True:=trivial
 have k1:True:=trivial
 have k3:True:=trivial
 intro ds hl
 unfold dP kj ko km kz kf
 match ds,hl with
 | [d,xd],_=>
  cases xd <;> first|exact Or.inl rfl|skip
  rename_i x hl
  cases hu:iv d with
  | none=>refine Or.inl ?_;simp only [fZ,hu]
  | some q=>
   obtain ⟨wd,rows,r,c⟩:=q
   by_cases hc:x.length<=900
   ·refine Or.inr ?_
    have e2:fZ C [d,.str x]=if wd<c+x.length then .ex C else .ok (scr wd (rows.set r ((rows.getD r []).take c++x++(rows.getD r []).drop (c+x.length))) r (c+x.length)):=by simp only [fZ,hu];rw [if_pos hc]
    rw [e2]
    obtain ⟨rfl,ok⟩:=gG hu
    show aK (aJ _ _ [some (.val (scr wd rows r c)),some (.val (.str x)),none,none,none])=_
    obtain ⟨g1,g2⟩:=zn ok
    have x0:ixD (scr wd rows r c) (.int 0)=some (.int (wd:Int)):=rfl
    have x1:ixD (scr wd rows r c) (.int 1)=some (.tup (rows.map .str)):=rfl
    have x2:ixD (scr wd rows r c) (.int 2)=some (.tup [.int (r:Int),.int (c:Int)]):=rfl
    have x3:ixD (.tup [.int (r:Int),.int (c:Int)]) (.int 0)=some (.int (r:Int)):=rfl
    have x4:ixD (.tup [.int (r:Int),.int (c:Int)]) (.int 1)=some (.int (c:Int)):=rfl
    have x5:ixD (.tup (rows.map .str)) (.int (r:Int))=some (.str (rows.getD r [])):=vY g1
    have n1:(c:Int)+(x.length:Int)=((c+x.length:Nat):Int):=by omega
    have hw:=ok.w
    generalize hrow:rows.getD r []=row at x5 g2
    have c1:=uc row c
    have c2:=nC row (c+x.length)
    have a1:bL (.str (row.take c)) (.str x)=some (.str (row.take c++x)):=sC (by have:=bo;simp;omega)
    have a2:bL (.str (row.take c++x)) (.str (row.drop (c+x.length)))=some (.str (row.take c++x++row.drop (c+x.length))):=sC (by have:=bo;simp;omega)
    have w1:=vv ok (x:=row.take c++x++row.drop (c+x.length)) (j:=c+x.length)
    by_cases hn:wd<c+x.length
    ·have d1:decide ((wd:Int)<((c+x.length:Nat):Int))=true:=by simp;omega
     rw [if_pos hn]
     clear hu hc e2 ok g1 g2 hrow hn hw r1 c1
     walk_at "run"
    ·have d1:decide ((wd:Int)<((c+x.length:Nat):Int))=false:=by simp;omega
     rw [if_neg hn]
     clear hu hc e2 ok g1 g2 hrow hn hw r1
     walk_at "run"
   ·refine Or.inl ?_;simp only [fZ,hu];rw [if_neg hc]
noncomputable def gw (C:Addr):List D->R D
 | [d,.int n,.int col]=>match iv d with
  | some (wd,rows,_,_)=>if 0<=n/\0<=col then (if (rows.length:Int)<=n\/(wd:Int)<col then .ex C else .ok (scr wd rows n.toNat col.toNat)) else .no
  | none=>.no
 | _=>.no
def eu:List D->R D
 | [d]=>match iv d with
  | some (wd,rows,r,c)=>.ok (scr wd (rows.set r ((rows.getD r []).take c++List.replicate (wd - c) 32)) r c)
  | none=>.no
 | _=>.no
theorem um:∀ ds:List D,ds.length=3->(gw C) ds=.no\/aK (eP C (aN 3 ds))=(gw C) ds:=by
 have c1:True:=trivial
 have c2:True:=trivial
 have c3:True:=trivial
 have r1:True:=trivial
 have k1:True:=trivial
 have k3:True:=trivial
 intro ds hl
 unfold eP ma mj
 match ds,hl with
 | [d,nd,cd],_=>
  cases nd <;> first|exact Or.inl rfl|skip
  cases cd <;> first|exact Or.inl rfl|skip
  rename_i n col hl
  cases hu:iv d with
  | none=>refine Or.inl ?_;simp only [gw,hu]
  | some q=>
   obtain ⟨wd,rows,r,c⟩:=q
   by_cases hc:0<=n/\0<=col
   ·refine Or.inr ?_
    have e2:gw C [d,.int n,.int col]=if (rows.length:Int)<=n\/(wd:Int)<col then .ex C else .ok (scr wd rows n.toNat col.toNat):=by simp only [gw,hu];rw [if_pos hc]
    rw [e2]
    obtain ⟨rfl,ok⟩:=gG hu
    obtain ⟨hn,hc⟩:=hc
    obtain ⟨n,rfl⟩:=Int.eq_ofNat_of_zero_le hn
    obtain ⟨col,rfl⟩:=Int.eq_ofNat_of_zero_le hc
    rw [Int.toNat_natCast,Int.toNat_natCast]
    show aK (aJ _ _ [some (.val (scr wd rows r c)),some (.val (.int (n:Int))),some (.val (.int (col:Int)))])=_
    have x0:ixD (scr wd rows r c) (.int 0)=some (.int (wd:Int)):=rfl
    have x1:ixD (scr wd rows r c) (.int 1)=some (.tup (rows.map .str)):=rfl
    have l1:(rows.map D.str).length=rows.length:=by simp
    have k2:∀ x y,mkT [x,y]=.ok (.tup [x,y]):=fun _ _=>m_t (by simp)
    have k3:∀ x y z,mkT [x,y,z]=.ok (.tup [x,y,z]):=fun _ _ _=>m_t (by simp)
    clear hu hn hc e2 ok r1
    by_cases h1:(rows.length:Int)<=(n:Int)
    ·have d1:decide ((rows.length:Int)<=(n:Int))=true:=by simp only [h1,decide_true]
     rw [if_pos (Or.inl h1)]
     clear h1
     walk_at "run"
    ·have d1:decide ((rows.length:Int)<=(n:Int))=false:=by simp only [h1,decide_false]
     by_cases h2:(wd:Int)<(col:Int)
     ·have d2:decide ((wd:Int)<(col:Int))=true:=by simp only [h2,decide_true]
      rw [if_pos (Or.inr h2)]
      clear h1 h2
      walk_at "run"
     ·have d2:decide ((wd:Int)<(col:Int))=false:=by simp only [h2,decide_false]
      rw [if_neg (fun q=>q.elim h1 h2)]
      clear h1 h2
      walk_at "run"
      all_goals rfl
   ·refine Or.inl ?_;simp only [gw,hu];rw [if_neg hc]
theorem oP:∀ ds:List D,ds.length=1->eu ds=.no\/aK (dk nR (aN 3 ds))=eu ds:=by
 have c1:True:=trivial
 have c2:True:=trivial
 have c3:True:=trivial
 have r1:True:=trivial
 have k1:True:=trivial
 have k3:True:=trivial
 intro ds hl
 unfold dk iK iX jk
 match ds,hl with
 | [d],_=>
  cases hu:iv d with
  | none=>refine Or.inl ?_;simp only [eu,hu]
  | some q=>
   obtain ⟨wd,rows,r,c⟩:=q
   refine Or.inr ?_
   have e2:eu [d]=.ok (scr wd (rows.set r ((rows.getD r []).take c++List.replicate (wd - c) 32)) r c):=by simp only [eu,hu]
   rw [e2]
   obtain ⟨rfl,ok⟩:=gG hu
   show aK (aJ _ _ [some (.val (scr wd rows r c)),none,none])=_
   obtain ⟨g1,g2⟩:=zn ok
   have x0:ixD (scr wd rows r c) (.int 0)=some (.int (wd:Int)):=rfl
   have x1:ixD (scr wd rows r c) (.int 1)=some (.tup (rows.map .str)):=rfl
   have x2:ixD (scr wd rows r c) (.int 2)=some (.tup [.int (r:Int),.int (c:Int)]):=rfl
   have x3:ixD (.tup [.int (r:Int),.int (c:Int)]) (.int 0)=some (.int (r:Int)):=rfl
   have x4:ixD (.tup [.int (r:Int),.int (c:Int)]) (.int 1)=some (.int (c:Int)):=rfl
   have x5:ixD (.tup (rows.map .str)) (.int (r:Int))=some (.str (rows.getD r [])):=vY g1
   have hw:=ok.w
   have hcw:=ok.c
   generalize hrow:rows.getD r []=row at x5 g2
   have c1:=uc row c
   have lt:(row.take c).length=c:=by simp;omega
   have j1:oz (.str (row.take c)) [.int (wd:Int)]=some (.str (row.take c++List.replicate (wd - c) 32)):=by
    simp only [oz,lt,Int.toNat_natCast];rw [if_pos (by omega)]
   have kd:∀ x,jr "str" (.str x)=true:=fun _=>rfl
   have w1:=vv ok (x:=row.take c++List.replicate (wd - c) 32) (j:=c)
   clear hu e2 ok g1 g2 hrow hw hcw lt
   walk_at "run"
def gU (C:Addr):List D->R D
 | [d,.tup (.str h::l)]=>if h=[115,97,121] then (match l with|x::_=>fZ C [d,x]|_=>.no) else if h=[103,111] then (match l with|n::c::_=>gw C [d,n,c]|_=>.no) else eu [d]
 | _=>.no
theorem nO:∀ ds:List D,ds.length=2->(gU C) ds=.no\/aK (cT (fZ C) (gw C) eu (aN 2 ds))=(gU C) ds:=by
 have c1:True:=trivial
 have c2:True:=trivial
 have c3:True:=trivial
 have r1:True:=trivial
 have k1:True:=trivial
 have k3:True:=trivial
 intro ds hl
 unfold cT il ii hY
 match ds,hl with
 | [d,od],_=>
  cases od <;> first|exact Or.inl rfl|skip
  rename_i xs hl
  cases xs with
  | nil=>exact Or.inl rfl
  | cons a l=>
   cases a <;> first|exact Or.inl rfl|skip
   rename_i hl2 h
   have x0:ixD (.tup (.str h::l)) (.int 0)=some (.str h):=vY (k:=0) rfl
   clear hl hl2 c1 c2 c3
   by_cases h1:h=[115,97,121]
   ·cases l with
    | nil=>refine Or.inl ?_;simp only [gU,h1,if_true]
    | cons x l=>
     refine Or.inr ?_
     have e2:gU C [d,.tup (.str h::x::l)]=fZ C [d,x]:=by simp only [gU,h1,if_true]
     rw [e2]
     show aK (aJ _ _ [some (.val d),some (.val (.tup (.str h::x::l)))])=_
     have x1:ixD (.tup (.str h::x::l)) (.int 1)=some x:=vY (k:=1) rfl
     have q1:(h==[115,97,121])=true:=by rw [h1];exact beq_self_eq_true _
     clear h1 e2
     walk_at "run"
     cases fZ C [d,x] <;> rfl
   ·have q1:(h==[115,97,121])=false:=beq_eq_false_iff_ne.2 h1
    by_cases h2:h=[103,111]
    ·match l with
     | []=>refine Or.inl ?_;simp only [gU,h1,h2,if_true,if_false];rw [if_neg (by rw [<- h2];exact h1)]
     | [x]=>refine Or.inl ?_;simp only [gU,h1,h2,if_true,if_false];rw [if_neg (by rw [<- h2];exact h1)]
     | x::y::l=>
      refine Or.inr ?_
      have e2:gU C [d,.tup (.str h::x::y::l)]=gw C [d,x,y]:=by simp only [gU];rw [if_neg h1,if_pos h2]
      rw [e2]
      show aK (aJ _ _ [some (.val d),some (.val (.tup (.str h::x::y::l)))])=_
      have x1:ixD (.tup (.str h::x::y::l)) (.int 1)=some x:=vY (k:=1) rfl
      have x2:ixD (.tup (.str h::x::y::l)) (.int 2)=some y:=vY (k:=2) rfl
      have q2:(h==[103,111])=true:=by rw [h2];exact beq_self_eq_true _
      clear h1 h2 e2
      walk_at "run"
      cases gw C [d,x,y] <;> rfl
    ·have q2:(h==[103,111])=false:=beq_eq_false_iff_ne.2 h2
     refine Or.inr ?_
     have e2:gU C [d,.tup (.str h::l)]=eu [d]:=by simp only [gU];rw [if_neg h1,if_neg h2]
     rw [e2]
     show aK (aJ _ _ [some (.val d),some (.val (.tup (.str h::l)))])=_
     clear h1 h2 e2
     walk_at "run"
     cases eu [d] <;> rfl
def rn (Cs Co Cr:Addr):List D->R D
 | [d,o]=>if good 4 d=true/\good 3 o=true then (if screen d=true then (if dQ o=true then gU Cr [d,o] else .ex Co) else .ex Cs) else .no
 | _=>.no
theorem CM {Co Cr:Addr}:∀ ds:List D,ds.length=2->(rn Cs Co Cr) ds=.no\/aK (kW (fT Cs) (qS Co) (gU Cr) (aN 2 ds))=(rn Cs Co Cr) ds:=by
 have c1:True:=trivial
 have c2:True:=trivial
 have c3:True:=trivial
 have r1:True:=trivial
 have k1:True:=trivial
 have k3:True:=trivial
 intro ds hl
 unfold kW xV yp ya
 match ds,hl with
 | [d,o],_=>
  by_cases hg:good 4 d=true/\good 3 o=true
  ·refine Or.inr ?_
   have e2:rn Cs Co Cr [d,o]=if screen d=true then (if dQ o=true then gU Cr [d,o] else .ex Co) else .ex Cs:=if_pos hg
   rw [e2]
   show aK (aJ _ _ [some (.val d),some (.val o)])=_
   have s1:fT Cs [d]=if screen d=true then .ok .non else .ex Cs:=if_pos (zm hg.1)
   have s2:qS Co [o]=if dQ o=true then .ok .non else .ex Co:=if_pos hg.2
   clear hl c1 c2 c3 e2 hg
   cases h1:screen d with
   | false=>
    rw [h1] at s1
    walk_at "run"
   | true=>
    rw [h1] at s1
    cases h2:dQ o with
    | false=>
     rw [h2] at s2
     walk_at "run"
    | true=>
     rw [h2] at s2
     walk_at "run"
     cases gU Cr [d,o] <;> rfl
  ·exact Or.inl (if_neg hg)
def DV:List D->Bool
 | [b]=>B0 b && D8 b
 | _=>false
def goT:List D->Bool
 | [b,c]=>inB b 0 11 && inB c 0 40
 | _=>false
theorem C7 (l:List D):dQ (.tup (.str ([115,97,121])::l))=DV l:=by
 have h1:(([115,97,121])==[103,111])=false:=by decide
 have h2:(([115,97,121])==[119,105,112,101])=false:=by decide
 match l with
 | []=>simp [dQ,iB,qp,fJ,DV,h2]
 | [b]=>rw [dQ,yA];simp [isX,qp,fJ,DV]
 | [b,c]=>simp [dQ,iB,qp,fJ,DV,h1]
 | b::c::d::l=>simp [dQ,iB,qp,fJ,DV]
theorem FV (l:List D):dQ (.tup (.str ([103,111])::l))=goT l:=by
 have h1:(([103,111])==[115,97,121])=false:=by decide
 have h2:(([103,111])==[119,105,112,101])=false:=by decide
 match l with
 | []=>simp [dQ,iB,qp,fJ,goT,h2]
 | [b]=>rw [dQ,yA];simp [isX,qp,fJ,goT,h1]
 | [b,c]=>simp [dQ,iB,qp,fJ,goT]
 | b::c::d::l=>simp [dQ,iB,qp,fJ,goT]
def cG:List D->R D:=fun ds=>match gU 0 ds with
 | .ok r=>.ok r
 | .ex _=>.ok ((D.str [110,111,32,114,111,111,109]))
 | .no=>.no
theorem A3 (hu : iv d = none) (o : D) : gU C [d, o] = .no := by
  cases o <;> first | rfl | skip
  rename_i xs
  cases xs with
  | nil => rfl
  | cons a l =>
    cases a <;> first | rfl | skip
    rename_i h
    simp only [gU]
    split
    · cases l with
      | nil => rfl
      | cons x l => cases x <;> first | rfl | (simp only [fZ, hu])
    · split
      · match l with
        | [] => rfl
        | [_] => rfl
        | n :: c :: l => cases n <;> first | rfl | skip
                         cases c <;> first | rfl | (simp only [gw, hu])
      · simp only [eu, hu]
theorem tW:∀ ds:List D,ds.length=2->cG ds=.no\/aK (eT (aN 10 ds))=cG ds:=by
 have c1:True:=trivial
 have c2:True:=trivial
 have c3:True:=trivial
 have r1:True:=trivial
 have k1:True:=trivial
 have k3:True:=trivial
 intro ds hl
 unfold eT mh lV lR lL mf mO me mq lq
 match ds,hl with
 | [d,o],_=>
  cases hu:iv d with
  | none=>refine Or.inl ?_;simp only [cG,A3 hu]
  | some q=>
   obtain ⟨wd,rows,r,c⟩:=q
   obtain ⟨rfl,ok⟩:=gG hu
   cases o <;> first|exact Or.inl rfl|skip
   rename_i xs hl2
   cases xs with
   | nil=>exact Or.inl rfl
   | cons a l=>
    cases a <;> first|exact Or.inl rfl|skip
    rename_i h
    obtain ⟨g1,g2⟩:=zn ok
    have hw:=ok.w
    have hcw:=ok.c
    have hrr:=ok.r
    have hmm:=ok.m
    have o0:ixD (.tup (.str h::l)) (.int 0)=some (.str h):=vY (k:=0) rfl
    have x3:ixD (.tup [.int (r:Int),.int (c:Int)]) (.int 0)=some (.int (r:Int)):=rfl
    have x4:ixD (.tup [.int (r:Int),.int (c:Int)]) (.int 1)=some (.int (c:Int)):=rfl
    have x5:ixD (.tup (rows.map .str)) (.int (r:Int))=some (.str (rows.getD r [])):=vY g1
    have l1:(rows.map D.str).length=rows.length:=by simp
    have k1:∀ x,mkT [x]=.ok (.tup [x]):=fun _=>m_t (by simp)
    have k2:∀ x y,mkT [x,y]=.ok (.tup [x,y]):=fun _ _=>m_t (by simp)
    have k3:∀ x y z,mkT [x,y,z]=.ok (.tup [x,y,z]):=fun _ _ _=>m_t (by simp)
    have c5:=uc (rows.map D.str) r
    have c6:nT (rows.map D.str) (some ((r:Int)+1)) none=(rows.map D.str).drop (r+1):=nC _ (r+1)
    have s1:∀ o:D,zD [2,3,4] (scr wd rows r c) [some (.val (scr wd rows r c)),some (.val o),none,none,none,none,none,none,none,none]=.ok [some (.val (scr wd rows r c)),some (.val o),some (.val (.int (wd:Int))),some (.val (.tup (rows.map .str))),some (.val (.tup [.int (r:Int),.int (c:Int)])),none,none,none,none,none]:=fun _=>rfl
    have b7:∀ y:List Nat,bL (.tup ((rows.map D.str).take r)) (.tup [.str y])=some (.tup ((rows.map D.str).take r++[.str y])):=fun y=>Ao (by have:=bo;simp;omega)
    have b8:∀ y:List Nat,bL (.tup ((rows.map D.str).take r++[.str y])) (.tup ((rows.map D.str).drop (r+1)))=some (.tup ((rows.set r y).map D.str)):=fun y=>by
     rw [<- vd rows r y hrr];exact Ao (by have:=bo;simp;omega)
    clear hl hl2
    by_cases hs:h=[115,97,121]
    ·have q1:(h==[115,97,121])=true:=by rw [hs];exact beq_self_eq_true _
     have q2:(h==[103,111])=false:=by rw [hs];decide
     cases l with
     | nil=>refine Or.inl ?_;simp only [cG,gU,hs,if_true]
     | cons x l=>
      have e0:gU 0 [scr wd rows r c,.tup (.str h::x::l)]=fZ 0 [scr wd rows r c,x]:=by simp only [gU,hs,if_true]
      cases x <;> first|(refine Or.inl ?_;simp only [cG,e0];rfl)|skip
      rename_i x
      by_cases hx:x.length<=900
      ·refine Or.inr ?_
       have o1:ixD (.tup (.str h::.str x::l)) (.int 1)=some (.str x):=vY (k:=1) rfl
       have e1:fZ 0 [scr wd rows r c,.str x]=if wd<c+x.length then .ex 0 else .ok (scr wd (rows.set r ((rows.getD r []).take c++x++(rows.getD r []).drop (c+x.length))) r (c+x.length)):=by simp only [fZ,hu];rw [if_pos hx]
       have n1:(c:Int)+(x.length:Int)=((c+x.length:Nat):Int):=by omega
       show aK (aJ _ _ [some (.val (scr wd rows r c)),some (.val (.tup (.str h::.str x::l))),none,none,none,none,none,none,none,none])=_
       generalize hrow:rows.getD r []=row at x5 g2 e1
       have c1:=uc row c
       have c2:=nC row (c+x.length)
       have a1:bL (.str (row.take c)) (.str x)=some (.str (row.take c++x)):=sC (by have:=bo;simp;omega)
       have a2:bL (.str (row.take c++x)) (.str (row.drop (c+x.length)))=some (.str (row.take c++x++row.drop (c+x.length))):=sC (by have:=bo;simp;omega)
       by_cases hn:wd<c+x.length
       ·have d1:decide ((wd:Int)<((c+x.length:Nat):Int))=true:=by simp;omega
        have e3:cG [scr wd rows r c,.tup (.str h::.str x::l)]=.ok ((D.str [110,111,32,114,111,111,109])):=by simp only [cG,e0,e1];rw [if_pos hn]
        rw [e3]
        clear hu hx e0 e1 e3 g1 g2 hrow hn hw hcw hrr hmm hs ok
        walk_at "run"
        all_goals rfl
       ·have d1:decide ((wd:Int)<((c+x.length:Nat):Int))=false:=by simp;omega
        have e3:cG [scr wd rows r c,.tup (.str h::.str x::l)]=.ok (scr wd (rows.set r (row.take c++x++row.drop (c+x.length))) r (c+x.length)):=by simp only [cG,e0,e1];rw [if_neg hn]
        rw [e3]
        clear hu hx e0 e1 e3 g1 g2 hrow hn hw hcw hrr hmm hs ok
        walk_at "run"
        all_goals rfl
      ·refine Or.inl ?_;simp only [cG,e0,fZ,hu];rw [if_neg hx]
    ·have q1:(h==[115,97,121])=false:=beq_eq_false_iff_ne.2 hs
     by_cases hgo:h=[103,111]
     ·have q2:(h==[103,111])=true:=by rw [hgo];exact beq_self_eq_true _
      match l with
      | []=>refine Or.inl ?_;simp only [cG,gU];rw [if_neg hs,if_pos hgo]
      | [x]=>refine Or.inl ?_;simp only [cG,gU];rw [if_neg hs,if_pos hgo]
      | x::y::l=>
       have e0:gU 0 [scr wd rows r c,.tup (.str h::x::y::l)]=gw 0 [scr wd rows r c,x,y]:=by simp only [gU];rw [if_neg hs,if_pos hgo]
       cases x <;> first|(refine Or.inl ?_;simp only [cG,e0];rfl)|skip
       cases y <;> first|(refine Or.inl ?_;simp only [cG,e0];rfl)|skip
       rename_i n col
       by_cases hc:0<=n/\0<=col
       ·refine Or.inr ?_
        have e1:gw 0 [scr wd rows r c,.int n,.int col]=if (rows.length:Int)<=n\/(wd:Int)<col then .ex 0 else .ok (scr wd rows n.toNat col.toNat):=by simp only [gw,hu];rw [if_pos hc]
        obtain ⟨hn0,hc0⟩:=hc
        obtain ⟨n,rfl⟩:=Int.eq_ofNat_of_zero_le hn0
        obtain ⟨col,rfl⟩:=Int.eq_ofNat_of_zero_le hc0
        rw [Int.toNat_natCast,Int.toNat_natCast] at e1
        have o1:ixD (.tup (.str h::.int (n:Int)::.int (col:Int)::l)) (.int 1)=some (.int (n:Int)):=vY (k:=1) rfl
        have o2:ixD (.tup (.str h::.int (n:Int)::.int (col:Int)::l)) (.int 2)=some (.int (col:Int)):=vY (k:=2) rfl
        show aK (aJ _ _ [some (.val (scr wd rows r c)),some (.val (.tup (.str h::.int (n:Int)::.int (col:Int)::l))),none,none,none,none,none,none,none,none])=_
        by_cases h1:(n:Int)<(rows.length:Int)
        ·have d1:decide ((n:Int)<(rows.length:Int))=true:=by simp only [h1,decide_true]
         by_cases h2:(col:Int)<=(wd:Int)
         ·have d2:decide ((col:Int)<=(wd:Int))=true:=by simp only [h2,decide_true]
          have e3:cG [scr wd rows r c,.tup (.str h::.int (n:Int)::.int (col:Int)::l)]=.ok (scr wd rows n col):=by simp only [cG,e0,e1];rw [if_neg (by omega)]
          rw [e3]
          clear hu e0 e1 e3 g1 g2 hw hcw hrr hmm hs hgo ok h1 h2 hn0 hc0
          walk_at "run"
          all_goals rfl
         ·have d2:decide ((col:Int)<=(wd:Int))=false:=by simp only [h2,decide_false]
          have e3:cG [scr wd rows r c,.tup (.str h::.int (n:Int)::.int (col:Int)::l)]=.ok ((D.str [110,111,32,114,111,111,109])):=by simp only [cG,e0,e1];rw [if_pos (by omega)]
          rw [e3]
          clear hu e0 e1 e3 g1 g2 hw hcw hrr hmm hs hgo ok h1 h2 hn0 hc0
          walk_at "run"
          all_goals rfl
        ·have d1:decide ((n:Int)<(rows.length:Int))=false:=by simp only [h1,decide_false]
         have e3:cG [scr wd rows r c,.tup (.str h::.int (n:Int)::.int (col:Int)::l)]=.ok ((D.str [110,111,32,114,111,111,109])):=by simp only [cG,e0,e1];rw [if_pos (by omega)]
         rw [e3]
         clear hu e0 e1 e3 g1 g2 hw hcw hrr hmm hs hgo ok h1 hn0 hc0
         walk_at "run"
         all_goals rfl
       ·refine Or.inl ?_;simp only [cG,e0,gw,hu];rw [if_neg hc]
     ·have q2:(h==[103,111])=false:=beq_eq_false_iff_ne.2 hgo
      refine Or.inr ?_
      have e0:gU 0 [scr wd rows r c,.tup (.str h::l)]=eu [scr wd rows r c]:=by simp only [gU];rw [if_neg hs,if_neg hgo]
      have e1:eu [scr wd rows r c]=.ok (scr wd (rows.set r ((rows.getD r []).take c++List.replicate (wd - c) 32)) r c):=by simp only [eu,hu]
      generalize hrow:rows.getD r []=row at x5 g2 e1
      have e3:cG [scr wd rows r c,.tup (.str h::l)]=.ok (scr wd (rows.set r (row.take c++List.replicate (wd - c) 32)) r c):=by simp only [cG,e0,e1]
      rw [e3]
      show aK (aJ _ _ [some (.val (scr wd rows r c)),some (.val (.tup (.str h::l))),none,none,none,none,none,none,none,none])=_
      have n0:(wd:Int) - (c:Int)=((wd - c:Nat):Int):=by omega
      have r1:fF (.str [32]) (.int ((wd - c:Nat):Int))=some (.str (List.replicate (wd - c) 32)):=DB (by omega)
      have lr:(List.replicate (wd - c) 32).length=wd - c:=by simp
      have n1:(c:Int)+((wd - c:Nat):Int)=(wd:Int):=by omega
      have d1:decide ((wd:Int)<(wd:Int))=false:=by simp
      have c1:=uc row c
      have c2:nT row (some (wd:Int)) none=[]:=by rw [nC row wd];exact List.drop_of_length_le (by omega)
      have a1:bL (.str (row.take c)) (.str (List.replicate (wd - c) 32))=some (.str (row.take c++List.replicate (wd - c) 32)):=sC (by have:=bo;simp;omega)
      have a2:bL (.str (row.take c++List.replicate (wd - c) 32)) (.str [])=some (.str (row.take c++List.replicate (wd - c) 32)):=by rw [sC (by have:=bo;simp;omega),List.append_nil]
      clear hu e0 e1 e3 g1 g2 hrow hw hcw hrr hmm hs hgo ok
      walk_at "run"
      all_goals rfl
end Q
namespace Q
open L2
open PySem (sizeLine Addr)
def jq:Ev->O:=(oIf (gB2 eqF (g2 ixD (rvz 0) (ciz 0)) (csz [115,97,121])) (aJ (cg (gOf eZ (aa (g2 ixD (rvz 0) (ciz 1)) nlz))) oNx) oNx)
def je:Ev->O:=(oIf (gB2 eqF (g2 ixD (rvz 0) (ciz 0)) (csz [103,111])) (aJ (cg (ciz 2)) oNx) oNx)
def iQ:Ev->O:=(cg (ciz 1))
def eY:Ev->O:=(aJ jq (aJ je (aJ iQ oNx)))
inductive Od where
 | say (x:List Nat)
 | go (r c:Nat)
 | wipe
def oD:Od->D
 | .say x=>.tup [.str [115,97,121],.str x]
 | .go r c=>.tup [.str [103,111],.int (r:Int),.int (c:Int)]
 | .wipe=>.tup [.str [119,105,112,101]]
def okO:Od->Bool
 | .say x=>plain x && (decide (1<=x.length) && decide (x.length<=40))
 | .go r c=>decide (r<=11) && decide (c<=40)
 | .wipe=>true
noncomputable def odD:D->Option Od
 | .tup [.str h,.str x]=>if h=[115,97,121] then some (.say x) else none
 | .tup [.str h,.int r,.int c]=>if h=[103,111]/\0<=r/\0<=c then some (.go r.toNat c.toNat) else none
 | .tup [.str h]=>if h=[119,105,112,101] then some .wipe else none
 | _=>none
theorem FL (o:Od):odD (oD o)=some o:=by
 cases o <;> simp [oD,odD]
theorem Fm {o:Od} (h:odD d=some o):d=oD o:=by
 unfold odD at h
 split at h
 ·split at h
  ·rename_i e;cases h;subst e;rfl
  ·cases h
 ·split at h
  ·rename_i e
   cases h
   obtain ⟨rfl,e1,e2⟩:=e
   simp only [oD]
   rw [Int.toNat_of_nonneg e1,Int.toNat_of_nonneg e2]
  ·cases h
 ·split at h
  ·rename_i e;cases h;subst e;rfl
  ·cases h
 ·cases h
theorem uU (o:Od):dQ (oD o)=okO o:=by
 cases o with
 | say x=>simp only [oD];rw [C7];simp [DV,B0,D8,okO]
 | go r c=>
  simp only [oD];rw [FV]
  simp only [goT,inB,okO]
  have a1:decide ((0:Int)<=(r:Int))=true:=by simp
  have a2:decide ((0:Int)<=(c:Int))=true:=by simp
  have a3:decide ((r:Int)<=11)=decide (r<=11):=by by_cases h:r<=11 <;> simp [h] <;> omega
  have a4:decide ((c:Int)<=40)=decide (c<=40):=by by_cases h:c<=40 <;> simp [h] <;> omega
  rw [a1,a2,a3,a4,Bool.true_and,Bool.true_and]
 | wipe=>decide
theorem yw {o:Od} (h:okO o=true):good 3 (oD o)=true:=by
 cases o with
 | say x=>
  simp only [okO,Bool.and_eq_true,decide_eq_true_eq] at h
  have h2:=h.2.2
  simp only [oD,good,List.all_cons,List.all_nil,Bool.and_true,Bool.and_eq_true,decide_eq_true_eq]
  exact ⟨by decide,by omega⟩
 | go r c=>rfl
 | wipe=>rfl
def kK:Od->Nat
 | .say x=>x.length
 | .go _ _=>2
 | .wipe=>1
def ocF:List D->R D
 | [d]=>match odD d with
  | some o=>.ok (.int (kK o:Int))
  | none=>.no
 | _=>.no
theorem pc:∀ ds:List D,ds.length=1->ocF ds=.no\/aK (eY (aN 1 ds))=ocF ds:=by
 intro ds hl
 match ds,hl with
 | [d],_=>
  cases q:odD d with
  | none=>exact Or.inl (by simp only [ocF,q])
  | some o=>
   refine Or.inr ?_
   have e0:ocF [d]=.ok (.int (kK o:Int)):=by simp only [ocF,q]
   rw [e0]
   have:=Fm q
   subst this
   show aK (aJ _ _ [some (.val (oD o))])=_
   unfold jq je iQ
   clear q e0 hl
   cases o <;> rfl
end Q
namespace Q
open L2
open PySem (sizeLine Addr)
def iG (ae:Addr) (aw:List D->R D):Ev->O:=(wm (bf 1 aw (aa (rvz 1) nlz)))
def mL (ae:Addr) (aw:List D->R D):Ev->O:=(jl ae 0 0 (sw (aa (aS mkT (aa (csz [109,97,100,101]) (aa (rvz 1) (aa (ciz 0) nlz)))) nlz)))
def lU (ae:Addr) (aw:List D->R D):Ev->O:=(jl ae 0 1 (sw nlz))
def kv (ae:Addr) (aw:List D->R D):Ev->O:=(aJ (iG ae aw) (aJ (mL ae aw) (aJ (lU ae aw) oNx)))
def kA (ae:Addr):Ev->O:=(cg (g2 ixD (uI ae 0 0 (aS uZ (ciz 1))) (ciz 1)))
def jA (ae:Addr):Ev->O:=(aJ (kA ae) oNx)
def kC (ae:Addr):Ev->O:=(cg (g2 ixD (uI ae 0 0 (aS uZ (ciz 1))) (ciz 2)))
def jm (ae:Addr):Ev->O:=(aJ (kC ae) oNx)
def hU (ae:Addr) (aW:MF):Ev->O:=(yd ae 0 0 (aS mkT (aa (rvz 1) (aa (rvz 2) (aa (g2 bL (cP ae 0 aW) (rvz 3)) nlz)))))
def ia (ae:Addr) (aW:MF):Ev->O:=(jl ae 0 1 (sw nlz))
def gv (ae:Addr) (aW:MF):Ev->O:=(aJ (hU ae aW) (aJ (ia ae aW) oNx))
def lz (ae:Addr) (aR aZ aW:MF) (ik bE:List D->R D):Ev->O:=(eB 2 (bf 2 ik (aa (cP ae 0 aR) (aa (rvz 1) nlz))))
def rL (ae:Addr) (aR aZ aW:MF) (ik bE:List D->R D):Ev->O:=(zV ae 0 3 aZ (aa (csz [100,111]) (aa (rvz 2) (aa (bf 1 bE (aa (rvz 1) nlz)) nlz))))
def qW (ae:Addr) (aR aZ aW:MF) (ik bE:List D->R D):Ev->O:=(xn (cP ae 0 aW))
def oB (ae:Addr) (aR aZ aW:MF) (ik bE:List D->R D):Ev->O:=(aJ (lz ae aR aZ aW ik bE) (aJ (rL ae aR aZ aW ik bE) (aJ (qW ae aR aZ aW ik bE) oNx)))
noncomputable def ip (ae ah:Addr):Ev->O:=(oIf (gB2 eqF (jN ae 0 0) (ciz 1)) (aJ (hJ ah (aa (csz [116,104,101,114,101,32,105,115,32,110,111,32,115,116,101,112,32,116,104,97,116,32,99,97,110,32,98,101,32,116,97,107,101,110,32,98,97,99,107]) nlz)) oNx) oNx)
def lm (ae ah:Addr):Ev->O:=(ug ae 0 0 1)
def lM (ae ah:Addr):Ev->O:=(yd ae 0 1 (rvz 1))
def nu (ae ah:Addr):Ev->O:=(xn (g2 ixD (rvz 1) (ciz 0)))
def kD (ae ah:Addr):Ev->O:=(aJ (ip ae ah) (aJ (lm ae ah) (aJ (lM ae ah) (aJ (nu ae ah) oNx))))
theorem bZ {m:Bool} {p:Addr} {fs:List (Nat×Fd)} (h:Z[i]?=some (some (.obj m C p fs))):iH C Z i=.ok fs:=by
 unfold iH;rw [h];exact if_pos rfl
theorem da {p:Addr} {fs:List (Nat×Fd)} (h:Z[i]?=some (some (.obj true C p fs))):jZ C Z i=.ok (p,fs):=by
 unfold jZ;rw [h];exact if_pos rfl
def iq:List Nat:=[109,97,100,101]
def wDo:List Nat:=[100,111]
def bt (sts tk:List D):List (Nat×Fd):=[(0,.own sts),(1,.own tk)]
def st3 (a b:D) (c:Int):D:=.tup [a,b,.int c]
def xc:List (Nat×Fd)->Option (List D×List D)
 | [(0,.own a),(1,.own b)]=>some (a,b)
 | _=>none
theorem pi {fs:List (Nat×Fd)} {a b:List D} (h:xc fs=some (a,b)):fs=bt a b:=by
 unfold xc at h
 split at h
 ·cases h;rfl
 ·cases h
def t3D:D->Option (D×D×Int)
 | .tup [a,b,.int c]=>some (a,b,c)
 | _=>none
theorem Bm {a b:D} {c:Int} (h:t3D d=some (a,b,c)):d=st3 a b c:=by
 unfold t3D at h
 split at h
 ·cases h;rfl
 ·cases h
def vX (sts:List D):Option (D×D×Int):=sts.getLast?.bind t3D
theorem Aw {sts:List D} {a b:D} {c:Int} (h:vX sts=some (a,b,c)):∃ l,sts=l++[st3 a b c]:=by
 unfold vX at h
 cases q:sts.getLast? with
 | none=>rw [q] at h;cases h
 | some d=>
  rw [q] at h
  have e:=Bm h
  subst e
  exact List.getLast?_eq_some_iff.1 q
theorem yq (l:List D) (a b:D) (c:Int):vX (l++[st3 a b c])=some (a,b,c):=by
 unfold vX;rw [List.getLast?_concat];rfl
theorem zA (l:List D) (d:D):ixD (.lst false (l++[d])) (.int (-1))=some d:=by
 show atI (l++[d]) (-1)=some d
 have e:ixN (l++[d]).length (-1)=some l.length:=by
  unfold ixN
  rw [if_neg (by decide),if_pos (by simp;omega)]
  simp
  omega
 unfold atI
 rw [e]
 simp
section
variable {Cs Co Cr Cb Cp:Addr}
def eX (Cs:Addr):MF:=fun fs ds=>match fs,ds with
 | [],[d]=>(match fT Cs [d] with
  | .ok _=>.ok .non (bt [st3 (.str iq) d 0] [])
  | .ex E=>.ex E
  | .no=>.no)
 | _,_=>.no
def xg (k:List D->List D->D->D->Int->List D->RM):MF:=fun fs ds=>match xc fs with
 | none=>.no
 | some (sts,tk)=>(match vX sts with
  | none=>.no
  | some (a,b,c)=>k sts tk a b c ds)
def fI:MF:=xg fun _ _ _ b _ ds=>match ds with
 | []=>.rd b
 | _=>.no
def lH:MF:=xg fun _ _ _ _ c ds=>match ds with
 | []=>.rd (.int c)
 | _=>.no
def xT:MF:=xg fun sts _ _ _ c ds=>match ds with
 | [a,b,.int p]=>if sts.length<1000 then .ok .non (bt (sts++[st3 a b (c+p)]) []) else .no
 | _=>.no
noncomputable def doM (Cs Co Cr:Addr):MF:=xg fun sts _ _ b c ds=>match ds with
 | [o]=>(match rn Cs Co Cr [b,o] with
  | .ok b'=>(match ocF [o] with
   | .ok (.int p)=>if sts.length<1000 then .ok (.int (c+p)) (bt (sts++[st3 (.str wDo) b' (c+p)]) []) else .no
   | _=>.no)
  | .ex E=>.ex E
  | .no=>.no)
 | _=>.no
def cO (Cb:Addr):MF:=xg fun sts tk a b c ds=>match ds with
 | []=>if sts.length=1 then .ex Cb else if tk.length<1000 then .ok a (bt sts.dropLast (tk++[st3 a b c])) else .no
 | _=>.no
theorem cy (k:List D->List D->D->D->Int->List D->RM) (l tk:List D) (a b:D) (c:Int) (ds:List D):xg k (bt (l++[st3 a b c]) tk) ds=k (l++[st3 a b c]) tk a b c ds:=by
 unfold xg
 have e:xc (bt (l++[st3 a b c]) tk)=some (l++[st3 a b c],tk):=rfl
 rw [e]
 dsimp only
 rw [yq]
theorem iA {g:Ev->O} {k:List D->List D->D->D->Int->List D->RM} (h:∀ p l tk a b c ds,match k (l++[st3 a b c]) tk a b c ds with
 | .ok d fs'=>∃ Z',Z'[0]?=some (some (.obj true Cp p fs'))/\(g (ci true Cp p (bt (l++[st3 a b c]) tk) n ds)=.re d Z'\/(g (ci true Cp p (bt (l++[st3 a b c]) tk) n ds)=.nx Z'/\d=.non))
 | .rd d=>g (ci false Cp p (bt (l++[st3 a b c]) tk) n ds)=.rt d
 | .ex E=>∃ Z',g (ci false Cp p (bt (l++[st3 a b c]) tk) n ds)=.ex E Z'
 | .no=>True):ce Cp g n (xg k):=by
 intro p fs ds
 cases q:xc fs with
 | none=>simp only [xg,q]
 | some z=>
  obtain ⟨sts,tk⟩:=z
  have e:=pi q
  subst e
  cases q2:vX sts with
  | none=>simp only [xg,q,q2]
  | some z2=>
   obtain ⟨a,b,c⟩:=z2
   obtain ⟨l,rfl⟩:=Aw q2
   have:=h p l tk a b c ds
   rw [cy]
   exact this
theorem fl0 (sts tk:List D):fldL (bt sts tk) 0=.ok sts:=rfl
theorem fl1 (sts tk:List D):fldL (bt sts tk) 1=.ok tk:=rfl
theorem pk0 (sts tk x:List D):iJ 0 (.own x) (bt sts tk)=bt x tk:=rfl
theorem pk1 (sts tk x:List D):iJ 1 (.own x) (bt sts tk)=bt sts x:=rfl
theorem Dg:ce Cp (jA Cp) 1 fI:=by
 refine iA fun p l tk a b c ds=>?_
 cases ds with
 | cons _ _=>trivial
 | nil=>
  have l1:=zA l (st3 a b c)
  have f0:=fl0 (l++[st3 a b c]) tk
  have o0:∀ r,iH Cp (some (.obj false Cp p (bt (l++[st3 a b c]) tk))::r) 0=.ok (bt (l++[st3 a b c]) tk):=fun r=>bZ rfl
  have ng1:uZ (.int 1)=.ok (.int (-1)):=rfl
  have i1:ixD (st3 a b c) (.int 1)=some b:=rfl
  show aJ _ _ [some (.obj false Cp p (bt (l++[st3 a b c]) tk))]=_
  unfold kA
  walk_at "run"
theorem CK:ce Cp (jm Cp) 1 lH:=by
 refine iA fun p l tk a b c ds=>?_
 cases ds with
 | cons _ _=>trivial
 | nil=>
  have l1:=zA l (st3 a b c)
  have f0:=fl0 (l++[st3 a b c]) tk
  have o0:∀ r,iH Cp (some (.obj false Cp p (bt (l++[st3 a b c]) tk))::r) 0=.ok (bt (l++[st3 a b c]) tk):=fun r=>bZ rfl
  have ng1:uZ (.int 1)=.ok (.int (-1)):=rfl
  have i1:ixD (st3 a b c) (.int 2)=some (.int c):=rfl
  show aJ _ _ [some (.obj false Cp p (bt (l++[st3 a b c]) tk))]=_
  unfold kC
  walk_at "run"
theorem Gc {l:List D} (h:(l++[d]).length<1000):(l++[d]).length<sizeLine:=Nat.lt_trans h (by decide)
theorem Gm:ce Cp (gv Cp lH) 4 xT:=by
 refine iA fun p l tk a b c ds=>?_
 match ds with
 | []=>trivial
 | [_]=>trivial
 | [_,_]=>trivial
 | _::_::_::_::_=>simp
 | [x,y,z]=>
  cases z with
  | int pr=>
   dsimp only
   by_cases hl:(l++[st3 a b c]).length<1000
   ·rw [if_pos hl]
    dsimp only
    have f0:=fl0 (l++[st3 a b c]) tk
    have lk:=Gc hl
    have s1:lH (bt (l++[st3 a b c]) tk) []=.rd (.int c):=cy _ l tk a b c []
    have o0:∀ r,iH Cp (some (.obj true Cp p (bt (l++[st3 a b c]) tk))::r) 0=.ok (bt (l++[st3 a b c]) tk):=fun r=>bZ rfl
    have o1:∀ r fs,jZ Cp (some (.obj true Cp p fs)::r) 0=.ok (p,fs):=fun r fs=>da rfl
    have mk3:∀ x y z,mkT [x,y,z]=.ok (.tup [x,y,z]):=fun _ _ _=>rfl
    have k0:=pk0 (l++[st3 a b c]) tk
    have k1:=pk1 (l++[st3 a b c]++[st3 x y (c+pr)]) tk
    have w:(bt (l++[st3 a b c]++[st3 x y (c+pr)]) tk).length<900:=by show 2<900;decide
    have e3:D.tup [x,y,D.int (c+pr)]=st3 x y (c+pr):=rfl
    have z0:0<=sizeLine:=by decide
    have z3:3<=sizeLine:=by decide
    refine ⟨[some (.obj true Cp p (bt (l++[st3 a b c]++[st3 x y (c+pr)]) [])),some (.val x),some (.val y),some (.val (.int pr))],rfl,.inr ⟨?_,rfl⟩⟩
    show aJ _ _ [some (.obj true Cp p (bt (l++[st3 a b c]) tk)),some (.val x),some (.val y),some (.val (.int pr))]=_
    unfold hU ia
    clear hl
    walk_at "run"
   ·rw [if_neg hl];trivial
  | _=>trivial
theorem JC:ce Cp (oB Cp fI xT lH (rn Cs Co Cr) ocF) 3 (doM Cs Co Cr):=by
 refine iA fun p l tk a b c ds=>?_
 match ds with
 | []=>trivial
 | _::_::_=>simp
 | [o]=>
  dsimp only
  have f0:=fl0 (l++[st3 a b c]) tk
  have s2:fI (bt (l++[st3 a b c]) tk) []=.rd b:=cy _ l tk a b c []
  have o0:∀ m r,iH Cp (some (.obj m Cp p (bt (l++[st3 a b c]) tk))::r) 0=.ok (bt (l++[st3 a b c]) tk):=fun m r=>bZ rfl
  cases hd:rn Cs Co Cr [b,o] with
  | no=>trivial
  | ex E=>
   dsimp only
   refine ⟨[some (.obj false Cp p (bt (l++[st3 a b c]) tk)),some (.val o),none],?_⟩
   show aJ _ _ [some (.obj false Cp p (bt (l++[st3 a b c]) tk)),some (.val o),none]=_
   unfold lz
   walk_at "run"
  | ok b'=>
   dsimp only
   cases ho:ocF [o] with
   | ex E=>trivial
   | no=>trivial
   | ok pd=>
    cases pd with
    | int pr=>
     dsimp only
     by_cases hl:(l++[st3 a b c]).length<1000
     ·rw [if_pos hl]
      dsimp only
      have s1:lH (bt (l++[st3 a b c]++[st3 (.str wDo) b' (c+pr)]) []) []=.rd (.int (c+pr)):=cy _ (l++[st3 a b c]) [] (.str wDo) b' (c+pr) []
      have s3:xT (bt (l++[st3 a b c]) tk) [.str wDo,b',.int pr]=.ok .non (bt (l++[st3 a b c]++[st3 (.str wDo) b' (c+pr)]) []):=(cy _ l tk a b c _).trans (if_pos hl)
      have o1:∀ r fs,jZ Cp (some (.obj true Cp p fs)::r) 0=.ok (p,fs):=fun r fs=>da rfl
      have o2:∀ r,iH Cp (some (.obj true Cp p (bt (l++[st3 a b c]++[st3 (.str wDo) b' (c+pr)]) []))::r) 0=.ok (bt (l++[st3 a b c]++[st3 (.str wDo) b' (c+pr)]) []):=fun r=>bZ rfl
      have wd:D.str [100,111]=.str wDo:=rfl
      refine ⟨[some (.obj true Cp p (bt (l++[st3 a b c]++[st3 (.str wDo) b' (c+pr)]) [])),some (.val o),some (.val b')],rfl,.inl ?_⟩
      show aJ _ _ [some (.obj true Cp p (bt (l++[st3 a b c]) tk)),some (.val o),none]=_
      unfold lz rL qW
      clear hl
      walk_at "run"
     ·rw [if_neg hl];trivial
    | _=>trivial
theorem FC:ce Cp (kD Cp Cb) 2 (cO Cb):=by
 refine iA fun p l tk a b c ds=>?_
 match ds with
 | _::_=>trivial
 | []=>
  dsimp only
  have f0:=fl0 (l++[st3 a b c]) tk
  have o0:∀ m r,iH Cp (some (.obj m Cp p (bt (l++[st3 a b c]) tk))::r) 0=.ok (bt (l++[st3 a b c]) tk):=fun m r=>bZ rfl
  by_cases h1:(l++[st3 a b c]).length=1
  ·rw [if_pos h1]
   dsimp only
   refine ⟨[some (.obj false Cp p (bt (l++[st3 a b c]) tk)),none],?_⟩
   show aJ _ _ [some (.obj false Cp p (bt (l++[st3 a b c]) tk)),none]=_
   have e1:D.int ((l++[st3 a b c]).length:Int)=.int 1:=by rw [h1];rfl
   unfold ip
   clear h1
   walk_at "run"
  ·rw [if_neg h1]
   by_cases hl:tk.length<1000
   ·rw [if_pos hl]
    dsimp only
    have e1:eqF (D.int ((l++[st3 a b c]).length:Int)) (.int 1)=some (.bl false):=by
     rw [HQ];simp at h1 ⊢;intro z;exact h1 (List.length_eq_zero_iff.1 (by omega))
    have lk:tk.length<sizeLine:=Nat.lt_trans hl (by decide)
    have f1:∀ x,fldL (bt x tk) 1=.ok tk:=fun x=>rfl
    have o1:∀ r fs,jZ Cp (some (.obj true Cp p fs)::r) 0=.ok (p,fs):=fun r fs=>da rfl
    have pp:ug Cp 0 0 1 [some (.obj true Cp p (bt (l++[st3 a b c]) tk)),none]=.nx [some (.obj true Cp p (bt (l++[st3 a b c]).dropLast tk)),some (.val (st3 a b c))]:=by
     unfold ug
     rw [o1,R.ok_out]
     dsimp only
     rw [f0,R.ok_out,List.getLast?_concat]
     rfl
    have k1:∀ x y,iJ 1 (.own y) (bt x tk)=bt x y:=fun x y=>rfl
    have ix0:ixD (st3 a b c) (.int 0)=some a:=rfl
    refine ⟨[some (.obj true Cp p (bt (l++[st3 a b c]).dropLast (tk++[st3 a b c]))),some (.val (st3 a b c))],rfl,.inl ?_⟩
    show aJ _ _ [some (.obj true Cp p (bt (l++[st3 a b c]) tk)),none]=_
    unfold ip lm lM nu
    generalize (l++[st3 a b c]).dropLast=dl at pp ⊢
    generalize hL:l++[st3 a b c]=L at *
    clear h1 hl hL
    walk_at "run"
   ·rw [if_neg hl];trivial
theorem FP:ce Cp (kv Cp (fT Cs)) 2 (eX Cs):=by
 intro p fs ds
 unfold eX
 match fs,ds with
 | [],[d]=>
  dsimp only
  cases hc:fT Cs [d] with
  | no=>trivial
  | ex E=>
   dsimp only
   refine ⟨[some (.obj false Cp p []),some (.val d)],?_⟩
   show aJ _ _ [some (.obj false Cp p []),some (.val d)]=_
   unfold iG
   walk_at "run"
  | ok x=>
   dsimp only
   have o1:∀ r fs,jZ Cp (some (.obj true Cp p fs)::r) 0=.ok (p,fs):=fun r fs=>da rfl
   have mk3:∀ x y z,mkT [x,y,z]=.ok (.tup [x,y,z]):=fun _ _ _=>rfl
   have z1:1<=sizeLine:=by decide
   have z0:0<=sizeLine:=by decide
   have w0:(0:Nat)<900:=by decide
   have w1':(1:Nat)<900:=by decide
   have k0:iJ 0 (.own [.tup [.str [109,97,100,101],d,.int 0]]) []=[(0,Fd.own [st3 (.str iq) d 0])]:=rfl
   have w1:([(0,Fd.own [st3 (.str iq) d 0])]:List (Nat×Fd)).length<900:=by show 1<900;decide
   have k1:iJ 1 (.own []) [(0,Fd.own [st3 (.str iq) d 0])]=bt [st3 (.str iq) d 0] []:=rfl
   refine ⟨[some (.obj true Cp p (bt [st3 (.str iq) d 0] [])),some (.val d)],rfl,.inr ⟨?_,rfl⟩⟩
   show aJ _ _ [some (.obj true Cp p []),some (.val d)]=_
   unfold iG mL lU
   walk_at "run"
 | [],[]=>trivial
 | [],_::_::_=>trivial
 | _::_,_=>trivial
end
end Q
namespace Q
open L2
open PySem (sizeLine Addr)
def fX:Ev->O:=(oIf (gB3 leD ltD (ciz 0) (rvz 1) (gOf eZ (aa (g2 ixD (rvz 0) (ciz 1)) nlz))) (aJ (cg (g2 ixD (g2 ixD (rvz 0) (ciz 1)) (rvz 1))) oNx) oNx)
def fY:Ev->O:=(cg (g2 fF (csz [32]) (g2 ixD (rvz 0) (ciz 0))))
def dA:Ev->O:=(aJ fX (aJ fY oNx))
def lQ (aw ax bg:List D->R D) (aq:Addr):Ev->O:=(wm (bf 1 aw (aa (rvz 0) nlz)))
noncomputable def ly (aw ax bg:List D->R D) (aq:Addr):Ev->O:=(oIf (gBn (aS nI (bf 3 ax (aa (rvz 1) (aa (aS uZ (ciz 12)) (aa (ciz 12) nlz)))))) (aJ (hJ aq (aa (csz [97,32,115,99,114,101,101,110,32,105,115,32,115,99,114,111,108,108,101,100,32,98,121,32,45,49,50,32,116,111,32,49,50,32,114,111,119,115]) nlz)) oNx) oNx)
def mv (aw ax bg:List D->R D) (aq:Addr):Ev->O:=(Cv 2 (kJ (aS bp (aa (gOf eZ (aa (g2 ixD (rvz 0) (ciz 1)) nlz)) nlz)) [0,1] (fun _=>R.ok true) (bf 2 bg (aa (rvz 1) (aa (g2 bL (rvz 0) (rvz 2)) nlz)))))
def my (aw ax bg:List D->R D) (aq:Addr):Ev->O:=(cg (aS mkT (aa (g2 ixD (rvz 0) (ciz 0)) (aa (gOf ju (aa (rvz 2) nlz)) (aa (g2 ixD (rvz 0) (ciz 2)) nlz)))))
def gB (aw ax bg:List D->R D) (aq:Addr):Ev->O:=(aJ (lQ aw ax bg aq) (aJ (ly aw ax bg aq) (aJ (mv aw ax bg aq) (F3 2 (aJ (my aw ax bg aq) oNx)))))
noncomputable def mM (ao bW:List D->R D):Ev->O:=(cg (bf 4 bW (aa (rvz 0) (aa (g2 bL (rvz 1) (ciz 5)) (aa (g2 bL (ciz 1) (bf 3 ao (aa (rvz 0) (aa (rvz 1) (aa (ciz 8) nlz))))) (aa (g2 bL (ciz 1) (bf 3 ao (aa (rvz 0) (aa (g2 bL (rvz 1) (ciz 1)) (aa (ciz 4) nlz))))) nlz))))))
def gJ (ao bW:List D->R D):Ev->O:=(aJ (mM ao bW) oNx)
theorem IQ (a b c:D):ixD (.tup [a,b,c]) (.int 0)=some a:=rfl
theorem IG (a b c:D):ixD (.tup [a,b,c]) (.int 1)=some b:=rfl
theorem Jl (a b c:D):ixD (.tup [a,b,c]) (.int 2)=some c:=rfl
theorem t3 (x y z:D):mkT [x,y,z]=.ok (.tup [x,y,z]):=m_t (by simp)
theorem tl_ (x:List D):ju [.lst false x]=some (.tup x):=rfl
theorem ng (i:Int):uZ (.int i)=.ok (.int (-i)):=rfl
theorem As (i lo hi:Int):xo [.int i,.int lo,.int hi]=.ok (.bl (decide (lo<=i) && decide (i<=hi))):=rfl
theorem tE (h:screen d=true):nQ d=true:=by
 cases d <;> first|(cases h;done)|skip
 rename_i xs
 match xs,h with
 | [],h=>cases h
 | [_],h=>cases h
 | [_,_],h=>cases h
 | a::b::c::e::l,h=>cases h
 | [a,r,p],h=>
  cases a <;> first|(cases h;done)|skip
  rename_i i
  cases r <;> first|(simp [screen,vT] at h;done)|skip
  rename_i rows
  simp only [screen,Bool.and_eq_true] at h
  obtain ⟨⟨h1,h2⟩,h3⟩:=h
  simp only [vT,Bool.and_eq_true,List.all_eq_true] at h2
  simp only [inB,Bool.and_eq_true,decide_eq_true_eq] at h1
  simp only [nQ,Bool.and_eq_true,List.all_eq_true]
  refine ⟨⟨rfl,fun r hr=>?_⟩,?_⟩
  ·have q:=h2.2 r hr
   cases r <;> first|rfl|(cases q;done)|skip
   rename_i x
   simp only [yg,Bool.and_eq_true,beq_iff_eq] at q
   simp only [DG,decide_eq_true_eq]
   have:=bo
   omega
  ·cases p <;> first|(cases h3;done)|skip
   rename_i ps
   match ps,h3 with
   | [a,b],h3=>
    simp only [rW,Bool.and_eq_true] at h3
    show [a,b].all jV=true
    rw [List.all_eq_true]
    intro x hx
    rcases List.mem_cons.1 hx with rfl|hx
    ·cases x <;> first|rfl|exact absurd h3.1 (by simp [inB])
    ·rcases List.mem_cons.1 hx with rfl|hx
     ·cases x <;> first|rfl|exact absurd h3.2 (by simp [inB])
     ·cases hx
theorem qZ (h:screen d=true):fT C [d]=.ok .non:=by
 show (if nQ d=true then (if screen d=true then R.ok D.non else .ex C) else .no)=_
 rw [if_pos (tE h),if_pos h]
def yB (b m r:Int):Bool:=decide (0<=b) && decide (b<=r - 1) && (decide (1<=m) && decide (m<=r - b))
theorem IS {P:Prop} (h:∀ wd rows p,d=.tup [.int wd,.tup rows,p]->P) (h2:(∀ wd rows p,d ≠ .tup [.int wd,.tup rows,p])->P):P:=by
 by_cases e:∃ wd rows p,d=.tup [.int wd,.tup rows,p]
 ·obtain ⟨wd,rows,p,e⟩:=e;exact h wd rows p e
 ·exact h2 fun wd rows p q=>e ⟨wd,rows,p,q⟩
def EV (l w:Nat):D->D
 | .str x=>.str ((x.drop l).take w)
 | d=>d
noncomputable def Hn:List D->R D
 | [.tup [.int wd,.tup rows,p],.int t,.int l,.int h,.int w]=>if screen (.tup [.int wd,.tup rows,p])=true/\yB t h rows.length=true/\yB l w wd=true then .ok (.tup [.int w,.tup (((rows.drop t.toNat).take h.toNat).map (EV l.toNat w.toNat)),.tup [.int 0,.int 0]]) else .no
 | _=>.no
theorem C9 {wd:Int} {rows:List D} {p:D} (h:screen (.tup [.int wd,.tup rows,p])=true):(1<=wd/\wd<=40)/\(1<=rows.length/\rows.length<=12)/\(∀ r∈rows,∃ x,r=.str x/\plain x=true/\(x.length:Int)=wd)/\rW p wd rows.length=true:=by
 simp only [screen,Bool.and_eq_true] at h
 obtain ⟨⟨h1,h2⟩,h3⟩:=h
 simp only [vT,Bool.and_eq_true,List.all_eq_true,decide_eq_true_eq] at h2
 simp only [inB,Bool.and_eq_true,decide_eq_true_eq] at h1
 refine ⟨h1,h2.1,fun r hr=>?_,h3⟩
 have q:=h2.2 r hr
 cases r <;> first|(cases q;done)|skip
 rename_i x
 simp only [yg,Bool.and_eq_true,beq_iff_eq] at q
 exact ⟨x,rfl,q.1,q.2⟩
def eJ (rows:List D) (wd:Nat) (n:Int):D:=if 0<=n/\n<rows.length then rows.getD n.toNat .non else .str (List.replicate wd 32)
def Bp:List D->R D
 | [.tup [.int wd,.tup rows,_],.int n]=>if 0<=wd/\wd<=100 then .ok (eJ rows wd.toNat n) else .no
 | _=>.no
theorem mE:∀ ds:List D,ds.length=2->Bp ds=.no\/aK (dA (aN 2 ds))=Bp ds:=by
 intro ds hl
 match ds,hl with
 | [d,n],_=>
  refine IS (d:=d) (fun wd rows p e=>?_) fun e=>Or.inl ?_
  ·subst e
   cases n <;> first|exact Or.inl rfl|skip
   rename_i n hl
   by_cases hc:0<=wd/\wd<=100
   ·refine Or.inr ?_
    have e2:Bp [.tup [.int wd,.tup rows,p],.int n]=.ok (eJ rows wd.toNat n):=if_pos hc
    rw [e2]
    obtain ⟨wd,rfl⟩:=Int.eq_ofNat_of_zero_le hc.1
    rw [Int.toNat_natCast]
    show aK (aJ _ _ [some (.val (.tup [.int wd,.tup rows,p])),some (.val (.int n))])=_
    unfold fX fY eJ
    have x0:=IQ (.int wd) (.tup rows) p
    have x1:=IG (.int wd) (.tup rows) p
    have m1:fF (.str [32]) (.int (wd:Int))=some (.str (List.replicate wd 32)):=DB (by omega)
    clear hl e2 hc
    by_cases h1:0<=n
    ·by_cases h2:n<rows.length
     ·obtain ⟨k,rfl⟩:=Int.eq_ofNat_of_zero_le h1
      have q1:decide ((0:Int)<=(k:Int))=true:=by simp
      have q2:decide ((k:Int)<(rows.length:Int))=true:=by simp;omega
      have x2:ixD (.tup rows) (.int (k:Int))=some (rows.getD k .non):=vY (by rw [List.getD_eq_getElem?_getD,List.getElem?_eq_getElem (by omega)];rfl)
      rw [if_pos ⟨h1,h2⟩,Int.toNat_natCast]
      clear h1 h2
      walk_at "run"
     ·have q1:decide ((0:Int)<=n)=true:=by simp [h1]
      have q2:decide (n<(rows.length:Int))=false:=by simp;omega
      rw [if_neg (by omega)]
      clear h1 h2
      walk_at "run"
    ·have q1:decide ((0:Int)<=n)=false:=by simp;omega
     rw [if_neg (by omega)]
     clear h1
     walk_at "run"
   ·exact Or.inl (if_neg hc)
  ·unfold Bp
   split
   ·rename_i q;cases q;exact absurd rfl (e _ _ _)
   ·rfl
def cA (rows:List D) (wd:Nat) (by_:Int):List D:=(List.range rows.length).map fun (k:Nat)=>eJ rows wd ((k:Int)+by_)
def fU:List D->R D
 | [.tup [.int wd,.tup rows,p],.int b]=>if screen (.tup [.int wd,.tup rows,p])=true/\-12<=b/\b<=12 then .ok (.tup [.int wd,.tup (cA rows wd.toNat b),p]) else .no
 | _=>.no
theorem sG {C1 C2:Addr}:∀ ds:List D,ds.length=2->fU ds=.no\/aK (gB (fT C1) xo Bp C2 (aN 3 ds))=fU ds:=by
 intro ds hl
 match ds,hl with
 | [d,n],_=>
  refine IS (d:=d) (fun wd rows p e=>?_) fun e=>Or.inl ?_
  ·subst e
   cases n <;> first|exact Or.inl rfl|skip
   rename_i b hl
   by_cases hc:screen (.tup [.int wd,.tup rows,p])=true/\-12<=b/\b<=12
   ·refine Or.inr ?_
    have e2:fU [.tup [.int wd,.tup rows,p],.int b]=.ok (.tup [.int wd,.tup (cA rows wd.toNat b),p]):=if_pos hc
    rw [e2]
    obtain ⟨hs,h1⟩:=hc
    have c1:=qZ (C:=C1) hs
    obtain ⟨⟨w1,w2⟩,⟨n1,n2⟩,hr,_⟩:=C9 hs
    obtain ⟨wd,rfl⟩:=Int.eq_ofNat_of_zero_le (a:=wd) (by omega)
    rw [Int.toNat_natCast]
    have c2:xo [.int b,.int (-12),.int 12]=.ok (.bl true):=by rw [As];simp;omega
    have e:jp (fun _=>R.ok true) (bf 2 Bp (aa (rvz 1) (aa (g2 bL (rvz 0) (rvz 2)) nlz))) ((List.range rows.length).map fun (i:Nat)=>D.int (i:Int)) [none,some (.val (.tup [.int wd,.tup rows,p])),some (.val (.int b))]
      = .ok (((List.range rows.length).map fun (i:Nat)=>D.int (i:Int)).map fun d=>match d with|.int k=>eJ rows wd (k+b)|d=>d):=by
     refine gq _ _ _ none fun d hd=>⟨rfl,?_⟩
     obtain ⟨k,_,rfl⟩:=List.mem_map.1 hd
     have r1:Bp [.tup [.int wd,.tup rows,p],.int ((k:Int)+b)]=.ok (eJ rows wd ((k:Int)+b)):=by
      have:Bp [.tup [.int wd,.tup rows,p],.int ((k:Int)+b)]=.ok (eJ rows (wd:Int).toNat ((k:Int)+b)):=if_pos (by omega)
      rw [this,Int.toNat_natCast]
     clear hd c1 c2 hr hs e2
     walk_at "run"
    have z1:(((List.range rows.length).map fun (i:Nat)=>D.int (i:Int)).map fun d=>match d with|.int k=>eJ rows wd (k+b)|d=>d)=cA rows wd b:=by
     rw [List.map_map];unfold cA;refine List.map_congr_left fun k _=>?_;rfl
    rw [z1] at e
    show aK (aJ _ _ [some (.val (.tup [.int wd,.tup rows,p])),some (.val (.int b)),none])=_
    have x0:=IQ (.int wd) (.tup rows) p
    have x1:=IG (.int wd) (.tup rows) p
    have x2:=Jl (.int wd) (.tup rows) p
    have r1:bp [.int (rows.length:Int)]=.ok ((List.range rows.length).map fun (i:Nat)=>D.int (i:Int)):=gR (by omega)
    have i2:kN [0,1] [some (.val (.tup [.int wd,.tup rows,p])),some (.val (.int b)),none]=[none,some (.val (.tup [.int wd,.tup rows,p])),some (.val (.int b))]:=rfl
    have z:(cA rows wd b).length<=sizeLine:=by have:=bo;unfold cA;simp;omega
    have k3:=tl_ (cA rows wd b)
    have f2:∀ (a0 a1:Option Sl) (ds:List D),frz 2 [a0,a1,some (.own ds)]=[a0,a1,some (.val (.lst false ds))]:=fun _ _ _=>rfl
    have m3:=t3
    have g1:=ng 12
    unfold lQ ly mv my
    clear hl e2 hs h1 w1 w2 n1 n2 hr z1
    walk_at "run"
   ·exact Or.inl (if_neg hc)
  ·unfold fU
   split
   ·rename_i q;cases q;exact absurd rfl (e _ _ _)
   ·rfl
def wS (ns:List Int) (a:Nat):Nat:=(1+dn ns a 8).toNat
def mS (ns:List Int) (a:Nat):Nat:=(1+dn ns (a+1) 4).toNat
theorem pO (ns:List Int) (a:Nat):1<=wS ns a/\wS ns a<=8/\(1:Int)+dn ns a 8=(wS ns a:Int):=by
 have h:=bB ns a (m:=8) (by decide)
 unfold wS;omega
theorem pU (ns:List Int) (a:Nat):1<=mS ns a/\mS ns a<=4/\(1:Int)+dn ns (a+1) 4=(mS ns a:Int):=by
 have h:=bB ns (a+1) (m:=4) (by decide)
 unfold mS;omega
def pl (ns:List Int) (a:Nat) (wd m:Nat):D:=.tup [.int (dn ns (a+400) m),.int (dn ns (a+401) (wd+1))]
def scS (ns:List Int) (a:Nat):D:=.tup [.int (wS ns a:Int),.tup (tj ns (a+5) (wS ns a) (mS ns a)),pl ns (a+5) (wS ns a) (mS ns a)]
def eF:List D->R D
 | [.lst _ ds,.int a]=>match fC ds with
  | some ns=>if 0<=a then .ok (scS ns a.toNat) else .no
  | none=>.no
 | _=>.no
theorem rX {ns:List Int} {a:Nat}:eF [.lst fz (ns.map .int),.int (a:Int)]=.ok (scS ns a):=by
 simp only [eF,eA,Int.natCast_nonneg,if_true,Int.toNat_natCast]
theorem ud:∀ ds:List D,ds.length=2->eF ds=.no\/aK (gJ bP nV (aN 2 ds))=eF ds:=by
 intro ds hl
 match ds,hl with
 | [l,a],_=>
  cases l <;> first|exact Or.inl rfl|skip
  cases a <;> first|exact Or.inl rfl|skip
  rename_i fz ds a hl
  cases hi:fC ds with
  | none=>refine Or.inl ?_;simp only [eF,hi]
  | some ns=>
   have e:=fy hi
   subst e
   by_cases hk:0<=a
   ·refine Or.inr ?_
    obtain ⟨a,rfl⟩:=Int.eq_ofNat_of_zero_le hk
    rw [rX]
    show aK (aJ _ _ [some (.val (.lst fz (ns.map .int))),some (.val (.int a))])=_
    have p1:bP [.lst fz (ns.map .int),.int (a:Int),.int 8]=.ok (.int (dn ns a 8)):=bT (by decide)
    have p2:bP [.lst fz (ns.map .int),.int ((a:Int)+1),.int 4]=.ok (.int (dn ns (a+1) 4)):=bT (n:=a+1) (by decide)
    obtain ⟨w1,w2,w3⟩:=pO ns a
    obtain ⟨m1,m2,m3⟩:=pU ns a
    have s1:nV [.lst fz (ns.map .int),.int ((a:Int)+5),.int (wS ns a:Int),.int (mS ns a:Int)]=.ok (scS ns a):=by
     have e:nV [.lst fz (ns.map .int),.int ((a:Int)+5),.int (wS ns a:Int),.int (mS ns a:Int)]=if ((0:Int)<=(a:Int)+5/\(0:Int)<=(wS ns a:Int)/\(wS ns a:Int)<=100)/\0<(mS ns a:Int)/\(mS ns a:Int)<=100 then .ok (Hk ns ((a:Int)+5).toNat (wS ns a:Int).toNat (mS ns a:Int).toNat) else .no:=by simp only [nV,eA]
     rw [e,if_pos (by omega),Int.toNat_natCast,Int.toNat_natCast,show ((a:Int)+5).toNat=a+5 by omega];rfl
    unfold mM
    clear hl hi hk w1 w2 m1 m2
    walk_at "run"
   ·refine Or.inl ?_;simp only [eF,hi,hk,if_false]
end Q
namespace Q
open L2
open PySem (sizeLine Addr)
abbrev St:=Nat×List (List Nat)×Nat×Nat
def sD (s:St):D:=scr s.1 s.2.1 s.2.2.1 s.2.2.2
noncomputable def di:St->Od->Option St
 | (wd,rows,r,c),.say x=>if wd<c+x.length then none else some (wd,rows.set r ((rows.getD r []).take c++x++(rows.getD r []).drop (c+x.length)),r,c+x.length)
 | (wd,rows,r,c),.go n k=>if rows.length<=n\/wd<k then none else some (wd,rows,n,k)
 | (wd,rows,r,c),.wipe=>some (wd,rows.set r ((rows.getD r []).take c++List.replicate (wd - c) 32),r,c)
structure GS (s:St):Prop where
 w1:1<=s.1
 w2:s.1<=40
 m:s.2.1.length<=12
 r:s.2.2.1<s.2.1.length
 c:s.2.2.2<=s.1
 l:∀ x∈s.2.1,x.length=s.1/\plain x=true
theorem GS.ok {s:St} (h:GS s):SOk s.1 s.2.1 s.2.2.1 s.2.2.2:=⟨by have:=h.w2;omega,h.c,h.r,by have:=h.m;omega,fun x hx=>(h.l x hx).1⟩
theorem GS.un {s:St} (h:GS s):iv (sD s)=some s:=vm h.ok
theorem GS.screen {s:St} (h:GS s):screen (sD s)=true:=by
 obtain ⟨wd,rows,r,c⟩:=s
 have h1:=h.w1
 have h2:=h.w2
 have h3:=h.m
 have h4:=h.r
 have h5:=h.c
 have h6:=h.l
 dsimp only at h1 h2 h3 h4 h5 h6
 have hf:vT (.tup (rows.map .str)) (wd:Int)=true:=by
  simp only [vT,List.length_map,Bool.and_eq_true,decide_eq_true_eq,List.all_eq_true]
  refine ⟨⟨by omega,by omega⟩,fun d hd=>?_⟩
  obtain ⟨x,hx,rfl⟩:=List.mem_map.1 hd
  obtain ⟨q1,q2⟩:=h6 x hx
  simp [yg,q1,q2]
 simp only [sD,scr,Q.screen,hf,rW,inB,List.length_map,Bool.and_eq_true,decide_eq_true_eq]
 refine ⟨⟨⟨by omega,by omega⟩,trivial⟩,?_⟩
 omega
theorem GS.good {s:St} (h:GS s):good 4 (sD s)=true:=by
 obtain ⟨wd,rows,r,c⟩:=s
 have h2:=h.w2
 have h6:=h.l
 dsimp only at h2 h6
 have:(rows.map D.str).all (Q.good 2)=true:=by
  rw [List.all_eq_true]
  intro d hd
  obtain ⟨x,hx,rfl⟩:=List.mem_map.1 hd
  have:=(h6 x hx).1
  simp only [Q.good,decide_eq_true_eq];omega
 simp only [sD,scr,Q.good,List.all_cons,List.all_nil,this,Bool.and_true]
def Hd:Option St->D
 | some s=>sD s
 | none=>.str [110,111,32,114,111,111,109]
def JY (C:Addr):Option St->R D
 | some s=>.ok (sD s)
 | none=>.ex C
theorem zj {s:St} {o:Od} (h:GS s) (ho:okO o=true):gU C [sD s,oD o]=JY C (di s o):=by
 have hu:=h.un
 obtain ⟨wd,rows,r,c⟩:=s
 have n1 : ¬ ([103,111]:List Nat)=[115,97,121]:=by decide
 have n2 : ¬ ([119,105,112,101]:List Nat)=[115,97,121]:=by decide
 have n3 : ¬ ([119,105,112,101]:List Nat)=[103,111]:=by decide
 cases o with
 | say x=>
  simp only [okO,Bool.and_eq_true,decide_eq_true_eq] at ho
  have e:gU C [sD (wd,rows,r,c),oD (.say x)]=fZ C [sD (wd,rows,r,c),.str x]:=by simp only [oD,gU,if_true]
  rw [e]
  simp only [fZ,hu]
  rw [if_pos (by omega)]
  by_cases hn:wd<c+x.length
  ·rw [if_pos hn];simp only [di,hn,if_true];rfl
  ·rw [if_neg hn];simp only [di,hn,if_false];rfl
 | go n k=>
  have e:gU C [sD (wd,rows,r,c),oD (.go n k)]=gw C [sD (wd,rows,r,c),.int (n:Int),.int (k:Int)]:=by simp only [oD,gU];rw [if_neg n1,if_pos trivial]
  rw [e]
  simp only [gw,hu,Int.toNat_natCast]
  rw [if_pos (by omega)]
  by_cases hn:rows.length<=n\/wd<k
  ·rw [if_pos (by omega)];simp only [di,hn,if_true];rfl
  ·rw [if_neg (by omega)];simp only [di,hn,if_false];rfl
 | wipe=>
  have e:gU C [sD (wd,rows,r,c),oD .wipe]=eu [sD (wd,rows,r,c)]:=by simp only [oD,gU];rw [if_neg n2,if_neg n3]
  rw [e]
  simp only [eu,hu]
  rfl
theorem jO {x y:List Nat} (h1:plain x=true) (h2:plain y=true):plain (x++y)=true:=by
 simp only [plain,List.all_append,Bool.and_eq_true] at *;exact ⟨h1,h2⟩
theorem mV {x y:List Nat} (h:plain x=true) (hs:∀ c∈y,c∈x):plain y=true:=by
 simp only [plain,List.all_eq_true] at h ⊢;exact fun c hc=>h c (hs c hc)
theorem uS {α:Type} {l:List α} {a x:α} (h:x∈l.set i a):x=a\/x∈l:=by
 rcases List.mem_or_eq_of_mem_set h with h|h
 ·exact .inr h
 ·exact .inl h
theorem uE {rows:List (List Nat)} {r:Nat} (h:r<rows.length):rows.getD r []∈rows:=by
 rw [List.getD_eq_getElem?_getD,List.getElem?_eq_getElem h];exact List.getElem_mem h
theorem Cz {s s':St} {o:Od} (h:GS s) (ho:okO o=true) (e:di s o=some s'):GS s':=by
 obtain ⟨wd,rows,r,c⟩:=s
 have h1:=h.w1
 have h2:=h.w2
 have h3:=h.m
 have h4:=h.r
 have h5:=h.c
 have h6:=h.l
 dsimp only at h1 h2 h3 h4 h5 h6
 obtain ⟨g1,g2⟩:=h6 _ (uE h4)
 cases o with
 | say x=>
  simp only [okO,Bool.and_eq_true,decide_eq_true_eq] at ho
  by_cases hn:wd<c+x.length
  ·simp only [di,hn,if_true] at e;cases e
  ·simp only [di,hn,if_false] at e
   cases e
   refine ⟨h1,h2,by simpa using h3,by simpa using h4,by dsimp only;omega,fun y hy=>?_⟩
   rcases uS hy with rfl|hy
   ·refine ⟨by simp only [List.length_append,List.length_take,List.length_drop,List.length_replicate];omega,jO (jO (mV g2 fun c hc=>List.mem_of_mem_take hc) ho.1) (mV g2 fun c hc=>List.mem_of_mem_drop hc)⟩
   ·exact h6 y hy
 | go n k=>
  by_cases hn:rows.length<=n\/wd<k
  ·simp only [di,hn,if_true] at e;cases e
  ·simp only [di,hn,if_false] at e
   cases e
   exact ⟨h1,h2,h3,by dsimp only;omega,by dsimp only;omega,h6⟩
 | wipe=>
  simp only [di] at e
  cases e
  refine ⟨h1,h2,by simpa using h3,by simpa using h4,h5,fun y hy=>?_⟩
  rcases uS hy with rfl|hy
  ·refine ⟨by simp only [List.length_append,List.length_take,List.length_drop,List.length_replicate];omega,jO (mV g2 fun c hc=>List.mem_of_mem_take hc) ?_⟩
   simp only [plain,List.all_eq_true]
   intro z hz
   rw [(List.mem_replicate.1 hz).2];decide
  ·exact h6 y hy
theorem D4 (ns:List Int) (a:Nat):∃ s:St,GS s/\scS ns a=sD s/\s.1=wS ns a/\s.2.1.length=mS ns a:=by
 obtain ⟨w1,w2,_⟩:=pO ns a
 obtain ⟨m1,m2,_⟩:=pU ns a
 have p1:=bB ns (a+5+400) (m:=(mS ns a:Int)) (by omega)
 have p2:=bB ns (a+5+401) (m:=(wS ns a:Int)+1) (by omega)
 refine ⟨(wS ns a,(List.range (mS ns a)).map (fun k=>xf ns (a+5+30 * k) (wS ns a)),(dn ns (a+5+400) (mS ns a)).toNat,(dn ns (a+5+401) (wS ns a+1)).toNat),⟨w1,by show wS ns a<=40;omega,by simp;omega,by simp;omega,by show (dn ns (a+5+401) (wS ns a+1)).toNat<=wS ns a;omega,fun x hx=>?_⟩,?_,rfl,by simp⟩
 ·obtain ⟨k,_,rfl⟩:=List.mem_map.1 hx
  exact ⟨sM ns _ _,wI ns _ _⟩
 ·show D.tup _=D.tup _
  have e1:((dn ns (a+5+400) (mS ns a)).toNat:Int)=dn ns (a+5+400) (mS ns a):=by omega
  have e2:((dn ns (a+5+401) (wS ns a+1)).toNat:Int)=dn ns (a+5+401) (wS ns a+1):=by omega
  unfold pl tj
  dsimp only
  rw [e1,e2,List.map_map]
  rfl
end Q
namespace Q
open L2
open PySem (sizeLine Addr)
theorem Dq {s:St} {o:Od} (h:GS s) (ho:okO o=true):cG [sD s,oD o]=.ok (Hd (di s o)):=by
 have:=zj (C:=0) h ho
 simp only [cG,this]
 cases di s o <;> rfl
theorem C8 {Co Cr:Addr} {s s':St} {o:Od} (h:GS s) (ho:okO o=true) (e:di s o=some s'):rn Cs Co Cr [sD s,oD o]=.ok (sD s'):=by
 have g1:=h.good
 have g2:=yw ho
 have g3:=h.screen
 have g4:dQ (oD o)=true:=by rw [uU];exact ho
 have g5:=zj (C:=Cr) h ho
 rw [e] at g5
 show (if _ then _ else _)=_
 rw [if_pos ⟨g1,g2⟩,if_pos g3,if_pos g4]
 exact g5
theorem Ho (o:Od):ocF [oD o]=.ok (.int (kK o:Int)):=by simp only [ocF,FL]
theorem H9 {Co Cr:Addr} {s s':St} {o:Od} (h:GS s) (ho:okO o=true) (e:di s o=some s') {l tk:List D} {a:D} {c:Int} (hl:l.length<900) :
  doM Cs Co Cr (bt (l++[st3 a (sD s) c]) tk) [oD o]=.ok (.int (c+(kK o:Int))) (bt (l++[st3 a (sD s) c]++[st3 (.str wDo) (sD s') (c+(kK o:Int))]) []):=by
 unfold doM
 rw [cy]
 dsimp only
 rw [C8 h ho e]
 dsimp only
 rw [Ho]
 dsimp only
 rw [if_pos (by simp;omega)]
theorem AV {l tk:List D} {a:D} {s:St} {c:Int}:fI (bt (l++[st3 a (sD s) c]) tk) []=.rd (sD s):=cy _ l tk a (sD s) c []
theorem yx {s:St} (h:GS s):yf (eX Cs) 1 [sD s]=.ok (bt [st3 (.str iq) (sD s) 0] []):=by
 have e:fT Cs [sD s]=.ok .non:=qZ h.screen
 unfold yf eX
 rw [if_pos (show [sD s].length=1 from rfl)]
 dsimp only
 rw [e]
theorem CZ {Cb:Addr} {l tk:List D} {a b:D} {c:Int} (h:0<l.length) (hk:tk.length<1000):cO Cb (bt (l++[st3 a b c]) tk) []=.ok a (bt l (tk++[st3 a b c])):=by
 unfold cO
 rw [cy]
 dsimp only
 rw [if_neg (by simp;intro z;rw [z] at h;simp at h),if_pos hk,List.dropLast_concat]
end Q
namespace Q
open L2
open PySem (sizeLine Addr)
noncomputable def gL (ae ah:Addr):Ev->O:=(oIf (gB2 eqF (jN ae 0 1) (ciz 0)) (aJ (hJ ah (aa (csz [116,104,101,114,101,32,105,115,32,110,111,32,115,116,101,112,32,116,104,97,116,32,99,97,110,32,98,101,32,100,111,110,101,32,97,103,97,105,110]) nlz)) oNx) oNx)
def kG (ae ah:Addr):Ev->O:=(ug ae 0 1 1)
def kE (ae ah:Addr):Ev->O:=(yd ae 0 0 (rvz 1))
def kh (ae ah:Addr):Ev->O:=(xn (g2 ixD (rvz 1) (ciz 0)))
def iY (ae ah:Addr):Ev->O:=(aJ (gL ae ah) (aJ (kG ae ah) (aJ (kE ae ah) (aJ (kh ae ah) oNx))))
def jv (ae:Addr):Ev->O:=(cg (aS mkT (aa (g2 xh (jN ae 0 0) (ciz 1)) (aa (jN ae 0 1) nlz))))
def hX (ae:Addr):Ev->O:=(aJ (jv ae) oNx)
section
variable {Cb Cp:Addr}
noncomputable def bR (Cb:Addr):MF:=fun fs ds=>match xc fs,ds with
 | some (sts,tk),[]=>(match tk.getLast? with
  | none=>.ex Cb
  | some d=>(match t3D d with
   | none=>.no
   | some (a,b,c)=>if sts.length<1000 then .ok a (bt (sts++[st3 a b c]) tk.dropLast) else .no))
 | _,_=>.no
theorem BU:ce Cp (iY Cp Cb) 2 (bR Cb):=by
 intro p fs ds
 unfold bR
 cases q:xc fs with
 | none=>trivial
 | some z=>
  obtain ⟨sts,tk⟩:=z
  have e:=pi q
  subst e
  cases ds with
  | cons _ _=>trivial
  | nil=>
   dsimp only
   have f1:∀ x,fldL (bt x tk) 1=.ok tk:=fun x=>rfl
   have o0:∀ m r,iH Cp (some (.obj m Cp p (bt sts tk))::r) 0=.ok (bt sts tk):=fun m r=>bZ rfl
   cases q2:tk.getLast? with
   | none=>
    dsimp only
    have e0:tk=[]:=List.getLast?_eq_none_iff.1 q2
    subst e0
    refine ⟨[some (.obj false Cp p (bt sts [])),none],?_⟩
    show aJ _ _ [some (.obj false Cp p (bt sts [])),none]=_
    have e1:eqF (D.int (([]:List D).length:Int)) (.int 0)=some (.bl true):=rfl
    unfold gL
    clear q2 q
    walk_at "run"
    all_goals rfl
   | some d=>
    dsimp only
    cases q3:t3D d with
    | none=>trivial
    | some w=>
     obtain ⟨a,b,c⟩:=w
     have ed:=Bm q3
     subst ed
     dsimp only
     by_cases hl:sts.length<1000
     ·rw [if_pos hl]
      dsimp only
      obtain ⟨tk0,rfl⟩:=List.getLast?_eq_some_iff.1 q2
      have e1:eqF (D.int ((tk0++[st3 a b c]).length:Int)) (.int 0)=some (.bl false):=by
       rw [HQ];simp;omega
      have lk:sts.length<sizeLine:=Nat.lt_trans hl (by decide)
      have o1:∀ r fs,jZ Cp (some (.obj true Cp p fs)::r) 0=.ok (p,fs):=fun r fs=>da rfl
      have pp:ug Cp 0 1 1 [some (.obj true Cp p (bt sts (tk0++[st3 a b c]))),none]=.nx [some (.obj true Cp p (bt sts (tk0++[st3 a b c]).dropLast)),some (.val (st3 a b c))]:=by
       unfold ug
       rw [o1,R.ok_out]
       dsimp only
       rw [f1,R.ok_out,List.getLast?_concat]
       rfl
      have fl0':∀ x,fldL (bt sts x) 0=.ok sts:=fun x=>rfl
      have k0:∀ x y,iJ 0 (.own y) (bt sts x)=bt y x:=fun x y=>rfl
      have ix0:ixD (st3 a b c) (.int 0)=some a:=rfl
      refine ⟨[some (.obj true Cp p (bt (sts++[st3 a b c]) (tk0++[st3 a b c]).dropLast)),some (.val (st3 a b c))],rfl,.inl ?_⟩
      show aJ _ _ [some (.obj true Cp p (bt sts (tk0++[st3 a b c]))),none]=_
      unfold gL kG kE kh
      generalize (tk0++[st3 a b c]).dropLast=dl at pp ⊢
      generalize hL:tk0++[st3 a b c]=L at *
      clear hl hL q2 q q3
      walk_at "run"
     ·rw [if_neg hl];trivial
def bz:MF:=fun fs ds=>match xc fs,ds with
 | some (sts,tk),[]=>.rd (.tup [.int ((sts.length:Int) - 1),.int (tk.length:Int)])
 | _,_=>.no
theorem A2:ce Cp (hX Cp) 1 bz:=by
 intro p fs ds
 unfold bz
 cases q:xc fs with
 | none=>trivial
 | some z=>
  obtain ⟨sts,tk⟩:=z
  have e:=pi q
  subst e
  cases ds with
  | cons _ _=>trivial
  | nil=>
   dsimp only
   have f0:=fl0 sts tk
   have f1:=fl1 sts tk
   have o0:∀ m r,iH Cp (some (.obj m Cp p (bt sts tk))::r) 0=.ok (bt sts tk):=fun m r=>bZ rfl
   have mk2:∀ x y,mkT [x,y]=.ok (.tup [x,y]):=fun _ _=>rfl
   show aJ _ _ [some (.obj false Cp p (bt sts tk))]=_
   unfold jv
   clear q
   walk_at "run"
theorem Au {sts tk:List D} {a b:D} {c:Int} (hl:sts.length<1000):bR Cb (bt sts (tk++[st3 a b c])) []=.ok a (bt (sts++[st3 a b c]) tk):=by
 unfold bR
 have e:xc (bt sts (tk++[st3 a b c]))=some (sts,tk++[st3 a b c]):=rfl
 rw [e]
 dsimp only
 rw [List.getLast?_concat]
 dsimp only
 have e2:t3D (st3 a b c)=some (a,b,c):=rfl
 rw [e2]
 dsimp only
 rw [if_pos hl,List.dropLast_concat]
theorem B4 {tk:List D} {a b:D} {c:Int}:cO Cb (bt ([]++[st3 a b c]) tk) []=.ex Cb:=by
 unfold cO
 rw [cy]
 exact if_pos rfl
theorem yu {sts tk:List D}:bz (bt sts tk) []=.rd (.tup [.int ((sts.length:Int) - 1),.int (tk.length:Int)]):=rfl
end
end Q
namespace Q
open L2
open PySem (sizeLine Addr)
end Q
namespace Q
open L2
open PySem (sizeLine Addr)
def fS (ar aq:Addr) (ah ak:Addr) (aQ aI:Addr) (af aP:Addr) (rs:List Addr):Ev->O:=(Cv 1 (sw (aa (aS (nG (uh rs ah)) (rvz 0)) (aa (aS (nG (uh rs aq)) (rvz 0)) (aa (aS (nG (uh rs ar)) (rvz 0)) nlz)))))
def gD (ar aq:Addr) (ah ak:Addr) (aQ aI:Addr) (af aP:Addr) (rs:List Addr):Ev->O:=(Il 1 (cQ (sw (aa (aS (nG (uh rs ak)) (rvz 0)) nlz))))
def gf (ar aq:Addr) (ah ak:Addr) (aQ aI:Addr) (af aP:Addr) (rs:List Addr):Ev->O:=(eB 1 (g2 bL (rvz 1) (cQ (sw (aa (aS (nG (uh rs af)) (rvz 0)) (aa (aS (nG (uh rs aI)) (rvz 0)) (aa (aS (nG (uh rs aQ)) (rvz 0)) nlz)))))))
def fO (ar aq:Addr) (ah ak:Addr) (aQ aI:Addr) (af aP:Addr) (rs:List Addr):Ev->O:=(eB 1 (g2 bL (rvz 1) (cQ (sw (aa (aS (nG (uh rs aP)) (rvz 0)) nlz)))))
noncomputable def fP (ar aq:Addr) (ah ak:Addr) (aQ aI:Addr) (af aP:Addr) (rs:List Addr):Ev->O:=(oIf (su (gB2 neF (pN "list" lu (rvz 1) (aa (fun _=>R.ok (D.bl true)) nlz)) (ciz 1)) (gBn (aS nI (aS (nG (vz rs)) (rvz 0))))) (aJ (cg (csz [119,114,111,110,103])) oNx) oNx)
noncomputable def gK (ar aq:Addr) (ah ak:Addr) (aQ aI:Addr) (af aP:Addr) (rs:List Addr):Ev->O:=(eB 2 (cQ (sw (aa (csz [110,111,32,98,97,99,107]) (aa (csz [110,111,32,110,117,109,98,101,114]) (aa (csz [110,111,32,111,114,100,101,114]) (aa (csz [110,111,32,114,111,111,109]) (aa (csz [110,111,32,115,99,114,101,101,110]) (aa (csz [110,111,32,116,97,98,108,101]) (aa (csz [110,111,32,116,97,115,107]) (aa (csz [110,111,32,116,101,120,116]) nlz)))))))))))
def gF (ar aq:Addr) (ah ak:Addr) (aQ aI:Addr) (af aP:Addr) (rs:List Addr):Ev->O:=(cg (g2 ixD (rvz 2) (pN "list" mx (rvz 1) (aa (fun _=>R.ok (D.bl true)) nlz))))
noncomputable def dG (ar aq:Addr) (ah ak:Addr) (aQ aI:Addr) (af aP:Addr) (rs:List Addr):Ev->O:=(aJ (fS ar aq ah ak aQ aI af aP rs) (aJ (gD ar aq ah ak aQ aI af aP rs) (F3 1 (aJ (gf ar aq ah ak aQ aI af aP rs) (aJ (fO ar aq ah ak aQ aI af aP rs) (aJ (fP ar aq ah ak aQ aI af aP rs) (aJ (gK ar aq ah ak aQ aI af aP rs) (aJ (gF ar aq ah ak aQ aI af aP rs) oNx))))))))
def gP (cj:List D->R D):Ev->O:=(aJ (cg (bf 1 cj (aa (rvz 1) nlz))) oNx)
def bF (cj:List D->R D) (rs:List Addr):R D->R D:=fun m=>aK (Bt (fun Z=>m.out Z .rt) (gP cj) (vz rs) 1 [none,none])
def Ck:List Nat:=[110,111,32,98,97,99,107]
def fA:List Nat:=[110,111,32,114,111,111,109]
def vQ (ar aq ah ak aQ aI af aP:Addr) (rs:List Addr):List D->R D:=fun ds=>fN (aK (dG ar aq ah ak aQ aI af aP rs (aN 3 ds)))
theorem qx (nd:[af,ar,ak,aq,aI,aQ,aP,ah].Nodup):∀ ds:List D,ds.length=1->vQ ar aq ah ak aQ aI af aP rs ds=.no\/fN (aK (dG ar aq ah ak aQ aI af aP rs (aN 3 ds)))=vQ ar aq ah ak aQ aI af aP rs ds:=fun _ _=>.inr rfl
theorem Bs {F:List D->R D} (h:C∈rs) (e:F [.exc C]=.ok d):bF F rs (.ex C)=.ok d:=by
 unfold bF
 have f:vz rs C=some true:=by unfold vz;rw [if_pos h]
 show aK (match (O.ex C [none,none]) with|.ex C Z'=>(match vz rs C with|some true=>(match gP F (Z'.set 1 (some (.val (.exc C)))) with|.nx Z''=>.nx (Z''.set 1 none)|.rt d=>.rt d|_=>.no)|_=>.no)|o=>o)=_
 dsimp only
 rw [f]
 dsimp only
 have g:gP F ([none,none].set 1 (some (.val (.exc C))))=.rt d:=by
  show ((F [.exc C]).out _ .rt).seq _=_
  rw [e];rfl
 rw [g];rfl
theorem wq (nd:[af,ar,ak,aq,aI,aQ,aP,ah].Nodup) (h:ah∈rs):vQ ar aq ah ak aQ aI af aP rs [.exc ah]=.ok (.str Ck):=by
 have z3:3<=sizeLine:=by decide
 have z1:1<=sizeLine:=by decide
 have z4:3+1<=sizeLine:=by decide
 have z8:8<=sizeLine:=by decide
 have f1:∀ (a0:Option Sl) (ds:List D) (a2:Option Sl),frz 1 [a0,some (.own ds),a2]=[a0,some (.val (.lst false ds)),a2]:=fun _ _ _=>rfl
 have o1:∀ (a0:Option Sl) (ds:List D) (a2:Option Sl),ownAt [a0,some (.own ds),a2] 1=.ok ds:=fun _ _ _=>rfl
 have kd:∀ (f:Bool) (l:List D),jr "list" (.lst f l)=true:=fun _ _=>rfl
 have y:∀ T,nG (uh rs T) (.exc ah)=.ok (.bl (ah==T)):=fun T=>by simp only [nG,uh,h,if_true];rfl
 have y2:nG (vz rs) (.exc ah)=.ok (.bl true):=by simp only [nG,vz,h,if_true];rfl
 have q0:(ah==ah)=true:=by simp
 have q_NoScreen:(ah==af)=false:=by simp;intro z;subst z;simp at nd
 have q_NoOrder:(ah==ar)=false:=by simp;intro z;subst z;simp at nd
 have q_NoRoom:(ah==ak)=false:=by simp;intro z;subst z;simp at nd
 have q_NoNumber:(ah==aq)=false:=by simp;intro z;subst z;simp at nd
 have q_NoTable:(ah==aI)=false:=by simp;intro z;subst z;simp at nd
 have q_NoTask:(ah==aQ)=false:=by simp;intro z;subst z;simp at nd
 have q_NoText:(ah==aP)=false:=by simp;intro z;subst z;simp at nd
 have a1:∀ a b c d e f g:D,bL (.lst false [a,b,c,d]) (.lst false [e,f,g])=some (.lst false [a,b,c,d,e,f,g]):=fun _ _ _ _ _ _ _=>rfl
 have a2:∀ a b c d e f g k:D,bL (.lst false [a,b,c,d,e,f,g]) (.lst false [k])=some (.lst false [a,b,c,d,e,f,g,k]):=fun _ _ _ _ _ _ _ _=>rfl
 have c1:lu (.lst false [.bl true,.bl false,.bl false,.bl false,.bl false,.bl false,.bl false,.bl false]) [.bl true]=some (.int 1):=rfl
 have c2:mx (.lst false [.bl true,.bl false,.bl false,.bl false,.bl false,.bl false,.bl false,.bl false]) [.bl true]=some (.int 0):=rfl
 unfold vQ
 show fN (aK (aJ _ _ [some (.val (.exc ah)),none,none]))=_
 unfold fS gD gf fO fP gK gF
 clear nd h
 walk_at "run"
 all_goals rfl
theorem wy (nd:[af,ar,ak,aq,aI,aQ,aP,ah].Nodup) (h:ak∈rs):vQ ar aq ah ak aQ aI af aP rs [.exc ak]=.ok (.str fA):=by
 have z3:3<=sizeLine:=by decide
 have z1:1<=sizeLine:=by decide
 have z4:3+1<=sizeLine:=by decide
 have z8:8<=sizeLine:=by decide
 have f1:∀ (a0:Option Sl) (ds:List D) (a2:Option Sl),frz 1 [a0,some (.own ds),a2]=[a0,some (.val (.lst false ds)),a2]:=fun _ _ _=>rfl
 have o1:∀ (a0:Option Sl) (ds:List D) (a2:Option Sl),ownAt [a0,some (.own ds),a2] 1=.ok ds:=fun _ _ _=>rfl
 have kd:∀ (f:Bool) (l:List D),jr "list" (.lst f l)=true:=fun _ _=>rfl
 have y:∀ T,nG (uh rs T) (.exc ak)=.ok (.bl (ak==T)):=fun T=>by simp only [nG,uh,h,if_true];rfl
 have y2:nG (vz rs) (.exc ak)=.ok (.bl true):=by simp only [nG,vz,h,if_true];rfl
 have q0:(ak==ak)=true:=by simp
 have q_NoScreen:(ak==af)=false:=by simp;intro z;subst z;simp at nd
 have q_NoOrder:(ak==ar)=false:=by simp;intro z;subst z;simp at nd
 have q_NoNumber:(ak==aq)=false:=by simp;intro z;subst z;simp at nd
 have q_NoTable:(ak==aI)=false:=by simp;intro z;subst z;simp at nd
 have q_NoTask:(ak==aQ)=false:=by simp;intro z;subst z;simp at nd
 have q_NoText:(ak==aP)=false:=by simp;intro z;subst z;simp at nd
 have q_NoBack:(ak==ah)=false:=by simp;intro z;subst z;simp at nd
 have a1:∀ a b c d e f g:D,bL (.lst false [a,b,c,d]) (.lst false [e,f,g])=some (.lst false [a,b,c,d,e,f,g]):=fun _ _ _ _ _ _ _=>rfl
 have a2:∀ a b c d e f g k:D,bL (.lst false [a,b,c,d,e,f,g]) (.lst false [k])=some (.lst false [a,b,c,d,e,f,g,k]):=fun _ _ _ _ _ _ _ _=>rfl
 have c1:lu (.lst false [.bl false,.bl false,.bl false,.bl true,.bl false,.bl false,.bl false,.bl false]) [.bl true]=some (.int 1):=rfl
 have c2:mx (.lst false [.bl false,.bl false,.bl false,.bl true,.bl false,.bl false,.bl false,.bl false]) [.bl true]=some (.int 3):=rfl
 unfold vQ
 show fN (aK (aJ _ _ [some (.val (.exc ak)),none,none]))=_
 unfold fS gD gf fO fP gK gF
 clear nd h
 walk_at "run"
 all_goals rfl
end Q
namespace Q
open L2
open PySem (sizeLine Addr)
def jo (ae:Addr) (aZ aR:MF) (dW:List D->R D):Ev->O:=(zV ae 0 3 aZ (aa (csz [115,99,114,111,108,108]) (aa (bf 2 dW (aa (cP ae 0 aR) (aa (rvz 1) nlz))) (aa (ciz 0) nlz))))
def ib (ae:Addr) (aZ aR:MF) (dW:List D->R D):Ev->O:=(aJ (jo ae aZ aR dW) oNx)
noncomputable def vW (ae:Addr) (cM gN:MF) (az:R D->R D):Ev->O:=(CU (pv az ae 0 [1] (xIf (gB2 eqF (g2 ixD (rvz 1) (ciz 0)) (csz [115,99,114,111,108,108])) (dR ae 0 1 cM (aa (g2 ixD (rvz 1) (ciz 1)) nlz)) (dR ae 0 1 gN (aa (g2 ixD (rvz 1) (ciz 1)) nlz)))))
def im (ae:Addr) (cM gN:MF) (az:R D->R D):Ev->O:=(aJ (vW ae cM gN az) oNx)
def mH (ae:Addr) (aW aR:MF):Ev->O:=(cg (aS mkT (aa (cP ae 0 aR) (aa (cP ae 0 aW) nlz))))
def kq (ae:Addr) (aW aR:MF):Ev->O:=(aJ (mH ae aW aR) oNx)
def bC:List Nat:=[115,99,114,111,108,108]
section
variable {Cs Co Cr Cp:Addr}
def dh:MF:=xg fun sts _ _ b c ds=>match ds with
 | [d]=>(match fU [b,d] with
  | .ok b'=>if sts.length<1000 then .ok .non (bt (sts++[st3 (.str bC) b' (c+0)]) []) else .no
  | .ex E=>.no
  | .no=>.no)
 | _=>.no
theorem Al:ce Cp (ib Cp xT fI fU) 2 dh:=by
 refine iA fun p l tk a b c ds=>?_
 match ds with
 | []=>trivial
 | _::_::_=>simp
 | [d]=>
  dsimp only
  cases hd:fU [b,d] with
  | no=>trivial
  | ex E=>trivial
  | ok b'=>
   dsimp only
   by_cases hl:(l++[st3 a b c]).length<1000
   ·rw [if_pos hl]
    dsimp only
    have s2:fI (bt (l++[st3 a b c]) tk) []=.rd b:=cy _ l tk a b c []
    have s3:xT (bt (l++[st3 a b c]) tk) [.str bC,b',.int 0]=.ok .non (bt (l++[st3 a b c]++[st3 (.str bC) b' (c+0)]) []):=(cy _ l tk a b c _).trans (if_pos hl)
    have o0:∀ m r,iH Cp (some (.obj m Cp p (bt (l++[st3 a b c]) tk))::r) 0=.ok (bt (l++[st3 a b c]) tk):=fun m r=>bZ rfl
    have o1:∀ r fs,jZ Cp (some (.obj true Cp p fs)::r) 0=.ok (p,fs):=fun r fs=>da rfl
    have wd:D.str [115,99,114,111,108,108]=.str bC:=rfl
    refine ⟨[some (.obj true Cp p (bt (l++[st3 a b c]++[st3 (.str bC) b' (c+0)]) [])),some (.val d)],rfl,.inr ⟨?_,rfl⟩⟩
    show aJ _ _ [some (.obj true Cp p (bt (l++[st3 a b c]) tk)),some (.val d)]=_
    unfold jo
    clear hl
    walk_at "run"
   ·rw [if_neg hl];trivial
def stS (s:St) (z:Int):St:=(s.1,(List.range s.2.1.length).map (fun (k:Nat)=>if 0<=(k:Int)+z/\(k:Int)+z<(s.2.1.length:Int) then s.2.1.getD ((k:Int)+z).toNat [] else List.replicate s.1 32),s.2.2.1,s.2.2.2)
theorem vE (s:St) (z:Int):cA (s.2.1.map .str) s.1 z=(stS s z).2.1.map .str:=by
 unfold cA stS eJ
 rw [List.length_map,List.map_map]
 refine List.map_congr_left fun k hk=>?_
 show (if _ then _ else _:D)=D.str (if _ then _ else _)
 by_cases h:0<=(k:Int)+z/\(k:Int)+z<(s.2.1.length:Int)
 ·rw [if_pos h,if_pos h]
  have hn:((k:Int)+z).toNat<s.2.1.length:=by omega
  rw [List.getD_eq_getElem?_getD,List.getD_eq_getElem?_getD,List.getElem?_map,List.getElem?_eq_getElem hn];rfl
 ·rw [if_neg h,if_neg h]
theorem Ff {s:St} (h:GS s) (z:Int):GS (stS s z):=by
 refine ⟨h.w1,h.w2,by simp only [stS,List.length_map,List.length_range];exact h.m,by simp only [stS,List.length_map,List.length_range];exact h.r,h.c,fun x hx=>?_⟩
 simp only [stS] at hx ⊢
 obtain ⟨k,hk,rfl⟩:=List.mem_map.1 hx
 by_cases q:0<=(k:Int)+z/\(k:Int)+z<(s.2.1.length:Int)
 ·rw [if_pos q];exact h.l _ (uE (by omega))
 ·rw [if_neg q];exact ⟨by simp,by simp [plain]⟩
theorem xz {s:St} (h:GS s) {z:Int} (h1 : -12<=z) (h2:z<=12):fU [sD s,.int z]=.ok (sD (stS s z)):=by
 have hs:=h.screen
 show (if screen (sD s)=true/\-12<=z/\z<=12 then R.ok (D.tup [.int (s.1:Int),.tup (cA (s.2.1.map .str) (s.1:Int).toNat z),_]) else .no)=_
 rw [if_pos ⟨hs,h1,h2⟩,Int.toNat_natCast,vE];rfl
inductive Dd where
 | scroll (z:Int)
 | ord (o:Od)
def ddD:Dd->D
 | .scroll z=>.tup [.str bC,.int z]
 | .ord o=>.tup [.str wDo,oD o]
def okD:Dd->Bool
 | .scroll z=>decide (-12<=z/\z<=12)
 | .ord o=>okO o
def ddS (s:St) (c:Int):Dd->Option (St×Int)
 | .scroll z=>some (stS s z,c+0)
 | .ord o=>(di s o).map fun s'=>(s',c+(kK o:Int))
def jG (s:St) (c:Int):Dd->D
 | .scroll _=>.non
 | .ord o=>match di s o with
  | some _=>.int (c+(kK o:Int))
  | none=>.str fA
def iy:Dd->D
 | .scroll _=>.str bC
 | .ord _=>.str wDo
theorem FE {s:St} {c:Int} {d:Dd} {r:St×Int} (h:GS s) (ok:okD d=true) (e:ddS s c d=some r):GS r.1:=by
 cases d with
 | scroll z=>cases e;exact Ff h z
 | ord o=>
  simp only [ddS] at e
  cases q:di s o with
  | none=>rw [q] at e;cases e
  | some s'=>rw [q] at e;cases e;exact Cz h ok q
noncomputable def fM (Cs Co Cr:Addr) (T:R D->R D):MF:=fun fs ds=>match ds with
 | [.tup [.str w,x]]=>(match (if w=bC then dh fs [x] else doM Cs Co Cr fs [x]) with
  | .ok d fs'=>.ok d fs'
  | .ex E=>(match T (.ex E) with
   | .ok d=>.ok d fs
   | _=>.no)
  | .rd _=>.no
  | .no=>.no)
 | _=>.no
theorem BL (Cs Co Cr:Addr) (T:R D->R D) (fs:List (Nat×Fd)) (ds:List D) (h:∀ w x,ds≠[.tup [.str w,x]]):fM Cs Co Cr T fs ds=.no:=by
 unfold fM
 split
 ·rename_i w x;exact absurd rfl (h w x)
 ·rfl
def D3 (C:Addr) (M1 M2:MF):Ev->O:=xIf (gB2 eqF (g2 ixD (rvz 1) (ciz 0)) (csz [115,99,114,111,108,108])) (dR C 0 1 M1 (aa (g2 ixD (rvz 1) (ciz 1)) nlz)) (dR C 0 1 M2 (aa (g2 ixD (rvz 1) (ciz 1)) nlz))
theorem BK {p:Addr} {M1 M2:MF} {m:Bool} {fs:List (Nat×Fd)} {w:List Nat} {x:D}:D3 C M1 M2 [some (.obj m C p fs),some (.val (.tup [.str w,x]))]=(if w=bC then M1 fs [x] else M2 fs [x]).outX m C p 0 [some (.obj m C p fs),some (.val (.tup [.str w,x]))]:=by
 have i0:ixD (.tup [.str w,x]) (.int 0)=some (.str w):=rfl
 have i1:ixD (.tup [.str w,x]) (.int 1)=some x:=rfl
 have t:gB2 eqF (g2 ixD (rvz 1) (ciz 0)) (csz [115,99,114,111,108,108]) [some (.obj m C p fs),some (.val (.tup [.str w,x]))]=.ok (w==bC):=by
  show gB2 eqF _ (fun _=>R.ok (D.str bC)) _=_
  walk_at "run"
 have a:(aa (g2 ixD (rvz 1) (ciz 1)) nlz) [some (.obj m C p fs),some (.val (.tup [.str w,x]))]=.ok [x]:=by walk_at "run"
 have o:DW C [some (.obj m C p fs),some (.val (.tup [.str w,x]))] 0=.ok (m,p,fs):=if_pos rfl
 have u:∀ M:MF,dR C 0 1 M (aa (g2 ixD (rvz 1) (ciz 1)) nlz) [some (.obj m C p fs),some (.val (.tup [.str w,x]))]=(M fs [x]).outX m C p 0 [some (.obj m C p fs),some (.val (.tup [.str w,x]))]:=fun M=>by
  unfold dR
  rw [o,R.ok_out,a,R.ok_out];rfl
 unfold D3 xIf
 rw [t,R.ok_out,u,u]
 by_cases h:w=bC
 ·rw [if_pos h,h];rfl
 ·have:(w==bC)=false:=by simp;exact h
  rw [if_neg h,this];rfl
theorem HJ {T:R D->R D}:ce Cp (im Cp dh (doM Cs Co Cr) T) 2 (fM Cs Co Cr T):=by
 intro p fs ds
 by_cases hd:∃ w x,ds=[.tup [.str w,x]]
 ·obtain ⟨w,x,rfl⟩:=hd
  have gt:=fun m=>BK (C:=Cp) (p:=p) (M1:=dh) (M2:=doM Cs Co Cr) (m:=m) (fs:=fs) (w:=w) (x:=x)
  unfold fM
  dsimp only
  have go:∀ r,im Cp dh (doM Cs Co Cr) T [some (.obj true Cp p fs),some (.val (.tup [.str w,x]))]=r ↔ ((pv T Cp 0 [1] (D3 Cp dh (doM Cs Co Cr)) [some (.obj true Cp p fs),some (.val (.tup [.str w,x]))]).thenX fun d Z'=>.re d Z').seq oNx=r:=fun r=>Iff.rfl
  have xt:pv T Cp 0 [1] (D3 Cp dh (doM Cs Co Cr)) [some (.obj true Cp p fs),some (.val (.tup [.str w,x]))]=(match D3 Cp dh (doM Cs Co Cr) [some (.obj false Cp p fs),some (.val (.tup [.str w,x]))] with
   | .re d _=>(T (.ok d)).out [some (.obj true Cp p fs),some (.val (.tup [.str w,x]))] fun d=>.re d [some (.obj true Cp p fs),some (.val (.tup [.str w,x]))]
   | .ex E _=>(T (.ex E)).out [some (.obj true Cp p fs),some (.val (.tup [.str w,x]))] fun d=>.re d [some (.obj true Cp p fs),some (.val (.tup [.str w,x]))]
   | _=>ka Cp p 0 [some (.obj true Cp p fs),some (.val (.tup [.str w,x]))] (D3 Cp dh (doM Cs Co Cr) [some (.obj true Cp p fs),some (.val (.tup [.str w,x]))])):=by
   unfold pv
   have:jZ Cp [some (.obj true Cp p fs),some (.val (.tup [.str w,x]))] 0=.ok (p,fs):=da rfl
   rw [this,R.ok_out];rfl
  rw [gt,gt] at xt
  cases q:(if w=bC then dh fs [x] else doM Cs Co Cr fs [x]) with
  | no=>trivial
  | rd d=>trivial
  | ok d fs'=>
   rw [q] at xt
   refine ⟨[some (.obj true Cp p fs'),some (.val (.tup [.str w,x]))],rfl,.inl ((go _).2 ?_)⟩
   rw [xt]
   show ((ka Cp p 0 _ (O.re d [some (.obj true Cp p fs'),some (.val (.tup [.str w,x]))])).thenX _).seq oNx=_
   unfold ka DY
   dsimp only [List.getElem?_cons_zero]
   rw [if_pos ⟨rfl,rfl⟩];rfl
  | ex E=>
   rw [q] at xt
   dsimp only
   cases qt:T (.ex E) with
   | no=>trivial
   | ex _=>trivial
   | ok d=>
    dsimp only
    refine ⟨[some (.obj true Cp p fs),some (.val (.tup [.str w,x]))],rfl,.inl ((go _).2 ?_)⟩
    rw [xt]
    show (((T (.ex E)).out _ _).thenX _).seq oNx=_
    rw [qt];rfl
 ·rw [BL _ _ _ _ _ _ fun w x z=>hd ⟨w,x,z⟩];trivial
theorem EG {T:R D->R D} {s:St} {c:Int} {d:Dd} (h:GS s) (ok:okD d=true) (hT:T (.ex Cr)=.ok (.str fA)) {l tk:List D} {a:D} (hl:l.length<900) :
  fM Cs Co Cr T (bt (l++[st3 a (sD s) c]) tk) [ddD d]=.ok (jG s c d) (match ddS s c d with
   | some r=>bt (l++[st3 a (sD s) c]++[st3 (iy d) (sD r.1) r.2]) []
   | none=>bt (l++[st3 a (sD s) c]) tk):=by
 cases d with
 | scroll z=>
  simp only [okD,decide_eq_true_eq] at ok
  have e:dh (bt (l++[st3 a (sD s) c]) tk) [.int z]=.ok .non (bt (l++[st3 a (sD s) c]++[st3 (.str bC) (sD (stS s z)) (c+0)]) []):=by
   unfold dh
   rw [cy]
   dsimp only
   rw [xz h ok.1 ok.2]
   dsimp only
   rw [if_pos (by simp;omega)]
  show (match (if bC=bC then dh _ [.int z] else _) with|.ok d fs'=>RM.ok d fs'|.ex E=>_|.rd _=>_|.no=>_)=_
  rw [if_pos rfl,e];rfl
 | ord o=>
  have ne : ¬ wDo=bC:=by decide
  show (match (if wDo=bC then _ else doM Cs Co Cr _ [oD o]) with|.ok d fs'=>RM.ok d fs'|.ex E=>(match T (.ex E) with|.ok d=>RM.ok d _|_=>.no)|.rd _=>.no|.no=>.no)=_
  rw [if_neg ne]
  simp only [ddS,jG,iy]
  cases q:di s o with
  | some s'=>rw [H9 h ok q hl];rfl
  | none=>
   have:doM Cs Co Cr (bt (l++[st3 a (sD s) c]) tk) [oD o]=.ex Cr:=by
    unfold doM
    rw [cy]
    dsimp only
    have g1:=h.good
    have g2:=yw ok
    have g4:dQ (oD o)=true:=by rw [uU];exact ok
    have g5:=zj (C:=Cr) h ok
    rw [q] at g5
    have:rn Cs Co Cr [sD s,oD o]=.ex Cr:=by
     show (if _ then _ else _)=_
     rw [if_pos ⟨g1,g2⟩,if_pos h.screen,if_pos g4]
     exact g5
    rw [this]
   rw [this]
   dsimp only
   rw [hT];rfl
def dz:MF:=xg fun _ _ _ b c ds=>match ds with
 | []=>.rd (.tup [b,.int c])
 | _=>.no
theorem EC:ce Cp (kq Cp lH fI) 1 dz:=by
 refine iA fun p l tk a b c ds=>?_
 cases ds with
 | cons _ _=>trivial
 | nil=>
  have s1:fI (bt (l++[st3 a b c]) tk) []=.rd b:=cy _ l tk a b c []
  have s2:lH (bt (l++[st3 a b c]) tk) []=.rd (.int c):=cy _ l tk a b c []
  have o0:∀ r,iH Cp (some (.obj false Cp p (bt (l++[st3 a b c]) tk))::r) 0=.ok (bt (l++[st3 a b c]) tk):=fun r=>bZ rfl
  have mk2:∀ x y,mkT [x,y]=.ok (.tup [x,y]):=fun _ _=>rfl
  show aJ _ _ [some (.obj false Cp p (bt (l++[st3 a b c]) tk))]=_
  unfold mH
  walk_at "run"
theorem DQ {l tk:List D} {a:D} {s:St} {c:Int}:dz (bt (l++[st3 a (sD s) c]) tk) []=.rd (.tup [sD s,.int c]):=cy _ l tk a (sD s) c []
end
end Q
namespace Q
open L2
open PySem (sizeLine Addr)
def lO (ao:List D->R D):Ev->O:=(eB 3 (bf 3 ao (aa (rvz 0) (aa (rvz 1) (aa (ciz 6) nlz)))))
def cW (ao:List D->R D):Ev->O:=(oIf (gB2 eqF (rvz 3) (ciz 0)) (aJ (cg (aS mkT (aa (csz [115,99,114,111,108,108]) (aa (g2 xh (bf 3 ao (aa (rvz 0) (aa (g2 bL (rvz 1) (ciz 1)) (aa (ciz 5) nlz)))) (ciz 2)) nlz)))) oNx) oNx)
def de (ao:List D->R D):Ev->O:=(oIf (gB2 eqF (rvz 3) (ciz 1)) (aJ (cg (aS mkT (aa (csz [100,111]) (aa (aS mkT (aa (csz [119,105,112,101]) nlz)) nlz)))) oNx) oNx)
noncomputable def cX (ao:List D->R D):Ev->O:=(oIf (gB2 ltD (rvz 3) (ciz 4)) (aJ (cg (aS mkT (aa (csz [100,111]) (aa (aS mkT (aa (csz [103,111]) (aa (bf 3 ao (aa (rvz 0) (aa (g2 bL (rvz 1) (ciz 1)) (aa (g2 bL (gOf eZ (aa (g2 ixD (rvz 2) (ciz 1)) nlz)) (ciz 1)) nlz)))) (aa (bf 3 ao (aa (rvz 0) (aa (g2 bL (rvz 1) (ciz 2)) (aa (g2 bL (g2 ixD (rvz 2) (ciz 0)) (ciz 2)) nlz)))) nlz)))) nlz)))) oNx) oNx)
def cZ (ao:List D->R D):Ev->O:=(eB 4 (g2 bL (ciz 1) (bf 3 ao (aa (rvz 0) (aa (g2 bL (rvz 1) (ciz 1)) (aa (ciz 3) nlz))))))
noncomputable def cY (ao:List D->R D):Ev->O:=(cg (aS mkT (aa (csz [100,111]) (aa (aS mkT (aa (csz [115,97,121]) (aa (pN "str" tI (csz []) (aa (cQ (kJ (aS bp (aa (rvz 4) nlz)) [0,1] (fun _=>R.ok true) (g2 ixD (csz [97,98,35,32]) (bf 3 ao (aa (rvz 1) (aa (g2 bL (g2 bL (rvz 2) (ciz 3)) (rvz 0)) (aa (ciz 4) nlz))))))) nlz)) nlz))) nlz))))
def eN (ao:List D->R D):Ev->O:=(aJ (lO ao) (aJ (cW ao) (aJ (de ao) (aJ (cX ao) (aJ (cZ ao) (aJ (cY ao) oNx))))))
def iU (bc:List D->R D):Ev->O:=(D2 (zD [2,3]) (rvz 0))
def dE (bc:List D->R D):Ev->O:=(aJ (GG 4 (gIf (gB3 leD ltD (ciz 0) (rvz 5) (gOf eZ (aa (g2 ixD (rvz 2) (ciz 1)) nlz))) (g2 ixD (g2 ixD (rvz 2) (ciz 1)) (rvz 5)) (g2 fF (csz [32]) (g2 ixD (rvz 2) (ciz 0))))) oNx)
noncomputable def jd (bc:List D->R D):Ev->O:=(oIf (gB2 eqF (g2 ixD (rvz 1) (ciz 0)) (csz [115,99,114,111,108,108])) (aJ (Cv 4 (sw nlz)) (aJ (sv (jM 5) (aS iE (aa (g2 ixD (rvz 1) (ciz 1)) (aa (g2 bL (g2 ixD (rvz 1) (ciz 1)) (gOf eZ (aa (g2 ixD (rvz 2) (ciz 1)) nlz))) nlz))) (dE bc)) (F3 4 (aJ (cg (aS mkT (aa (aS mkT (aa (aS mkT (aa (g2 ixD (rvz 2) (ciz 0)) (aa (gOf ju (aa (rvz 4) nlz)) (aa (g2 ixD (rvz 2) (ciz 2)) nlz)))) (aa (rvz 3) nlz))) (aa (fun _=>R.ok D.non) nlz)))) oNx)))) oNx)
def jB (bc:List D->R D):Ev->O:=(eB 6 (bf 2 bc (aa (rvz 2) (aa (g2 ixD (rvz 1) (ciz 1)) nlz))))
def iW (bc:List D->R D):Ev->O:=(oIf (gB2 eqF (rvz 6) (csz [110,111,32,114,111,111,109])) (aJ (cg (aS mkT (aa (rvz 0) (aa (rvz 6) nlz)))) oNx) oNx)
noncomputable def iR (bc:List D->R D):Ev->O:=(eB 3 (g2 bL (rvz 3) (gIf (gB2 eqF (g2 ixD (g2 ixD (rvz 1) (ciz 1)) (ciz 0)) (csz [115,97,121])) (gOf eZ (aa (g2 ixD (g2 ixD (rvz 1) (ciz 1)) (ciz 1)) nlz)) (g2 bL (ciz 1) (gOf fK (aa (g2 eqF (g2 ixD (g2 ixD (rvz 1) (ciz 1)) (ciz 0)) (csz [103,111])) nlz))))))
def iZ (bc:List D->R D):Ev->O:=(cg (aS mkT (aa (aS mkT (aa (rvz 6) (aa (rvz 3) nlz))) (aa (rvz 3) nlz))))
def dq (bc:List D->R D):Ev->O:=(aJ (iU bc) (aJ (jd bc) (aJ (jB bc) (aJ (iW bc) (aJ (iR bc) (aJ (iZ bc) oNx))))))
section
def dw:List D->R D:=fun ds=>aK (eN bP (aN 5 ds))
def bx:List D->R D:=fun ds=>aK (dq cG (aN 7 ds))
theorem sY:∀ ds:List D,ds.length=3->dw ds=.no\/aK (eN bP (aN 5 ds))=dw ds:=fun _ _=>.inr rfl
theorem qd:∀ ds:List D,ds.length=2->bx ds=.no\/aK (dq cG (aN 7 ds))=bx ds:=fun _ _=>.inr rfl
theorem HK (x:List Nat):L2.fg (x.map fun c=>D.str [c])=some (x.map fun c=>[c]):=by
 induction x with
 | nil=>rfl
 | cons c x ih=>rw [List.map_cons,L2.fg,ih];rfl
theorem F7:∀ x:List Nat,pQ [] (x.map fun c=>[c])=x
 | []=>rfl
 | [c]=>rfl
 | c::d::x=>by
  have:=F7 (d::x)
  rw [List.map_cons] at this
  rw [List.map_cons,List.map_cons,pQ,this];rfl
theorem Gp {x:List Nat} (h:x.length<=1000) (f:Bool):tI (.str []) [.lst f (x.map fun c=>D.str [c])]=some (.str x):=by
 simp only [tI,HK,F7]
 rw [if_pos]
 have lb:=bo
 have:∀ y:List Nat,((y.map fun c=>[c]).map List.length).sum=y.length:=fun y=>by
  induction y with
  | nil=>rfl
  | cons c y ih=>simp at ih ⊢;omega
 rw [this];simp;omega
def sgA (ns:List Int) (a:Nat):Nat:=([97,98,35,32]:List Nat).getD (dn ns a 4).toNat 0
theorem Bw (ns:List Int) (a:Nat):ixD (.str [97,98,35,32]) (.int (dn ns a 4))=some (.str [sgA ns a])/\32<=sgA ns a/\sgA ns a<=126:=by
 have h:=bB ns a (m:=4) (by decide)
 unfold sgA
 generalize dn ns a 4=z at h
 obtain ⟨n,rfl⟩:∃ n:Nat,z=(n:Int):=⟨z.toNat,by omega⟩
 have:n=0\/n=1\/n=2\/n=3:=by omega
 rcases this with rfl|rfl|rfl|rfl <;> exact ⟨rfl,by decide,by decide⟩
theorem xU {ns:List Int} {a:Nat} {s:St} (h:GS s) (hs1:s.1<=8) (hs2:s.2.1.length<=4):∃ d:Dd,okD d=true/\dw [.lst fz (ns.map .int),.int (a:Int),sD s]=.ok (ddD d):=by
 have lb:=bo
 have v:=bB ns a (m:=6) (by decide)
 have p0:bP [.lst fz (ns.map .int),.int (a:Int),.int 6]=.ok (.int (dn ns a 6)):=bT (by decide)
 have hr:=h.r
 have hw:=h.w2
 have hm:=h.m
 have i1:ixD (sD s) (.int 1)=some (.tup (s.2.1.map .str)):=rfl
 have i0:ixD (sD s) (.int 0)=some (.int (s.1:Int)):=rfl
 have ln:eZ [.tup (s.2.1.map .str)]=some (.int (s.2.1.length:Int)):=by simp [eZ]
 have mk1:∀ x,mkT [x]=.ok (.tup [x]):=fun _=>rfl
 have mk2:∀ x y,mkT [x,y]=.ok (.tup [x,y]):=fun _ _=>rfl
 have mk3:∀ x y z,mkT [x,y,z]=.ok (.tup [x,y,z]):=fun _ _ _=>rfl
 have k1:(a:Int)+1=((a+1:Nat):Int):=by omega
 have k2:(a:Int)+2=((a+2:Nat):Int):=by omega
 have k3:(a:Int)+3=((a+3:Nat):Int):=by omega
 unfold dw
 show ∃ d,okD d=true/\aK (aJ _ _ [some (.val (.lst fz (ns.map .int))),some (.val (.int (a:Int))),some (.val (sD s)),none,none])=_
 unfold lO cW de cX cZ cY
 have hv:dn ns a 6=0\/dn ns a 6=1\/dn ns a 6=2\/dn ns a 6=3\/dn ns a 6=4\/dn ns a 6=5:=by omega
 have go:∀ w:Int,(w=2\/w=3)->bP [.lst fz (ns.map .int),.int (a:Int),.int 6]=.ok (.int w)->∃ d,okD d=true/\aK (aJ (eB 3 (bf 3 bP (aa (rvz 0) (aa (rvz 1) (aa (ciz 6) nlz))))) (aJ (cW bP) (aJ (de bP) (aJ (cX bP) (aJ (cZ bP) (aJ (cY bP) oNx))))) [some (.val (.lst fz (ns.map .int))),some (.val (.int (a:Int))),some (.val (sD s)),none,none])=.ok (ddD d):=by
  clear p0
  intro w hw2 p0
  have q1:=bB ns (a+1) (m:=(s.2.1.length:Int)+1) (by omega)
  have q2:=bB ns (a+2) (m:=(s.1:Int)+2) (by omega)
  obtain ⟨r,er⟩:∃ r:Nat,dn ns (a+1) ((s.2.1.length:Int)+1)=(r:Int):=⟨_,(Int.toNat_of_nonneg q1.1).symm⟩
  obtain ⟨c,ec⟩:∃ c:Nat,dn ns (a+2) ((s.1:Int)+2)=(c:Int):=⟨_,(Int.toNat_of_nonneg q2.1).symm⟩
  have p1:bP [.lst fz (ns.map .int),.int ((a+1:Nat):Int),.int ((s.2.1.length:Int)+1)]=.ok (.int (r:Int)):=by rw [<- er];exact bT (by omega)
  have p2:bP [.lst fz (ns.map .int),.int ((a+2:Nat):Int),.int ((s.1:Int)+2)]=.ok (.int (c:Int)):=by rw [<- ec];exact bT (by omega)
  refine ⟨.ord (.go r c),by simp only [okD,okO,Bool.and_eq_true,decide_eq_true_eq];omega,?_⟩
  show _=R.ok (D.tup [.str wDo,.tup [.str [103,111],.int (r:Int),.int (c:Int)]])
  unfold cW de cX cZ cY
  have wd:D.str [100,111]=.str wDo:=rfl
  generalize D.lst fz (ns.map .int)=S at *
  have t1:(w==0)=false:=by rcases hw2 with rfl|rfl <;> rfl
  have t2:(w==1)=false:=by rcases hw2 with rfl|rfl <;> rfl
  have t3:decide (w<4)=true:=by rcases hw2 with rfl|rfl <;> rfl
  clear v q1 q2 er ec h hr hw hm lb hv hw2 k3
  walk_at "run"
 have say:∀ w:Int,(w=4\/w=5)->bP [.lst fz (ns.map .int),.int (a:Int),.int 6]=.ok (.int w)->∃ d,okD d=true/\aK (aJ (eB 3 (bf 3 bP (aa (rvz 0) (aa (rvz 1) (aa (ciz 6) nlz))))) (aJ (cW bP) (aJ (de bP) (aJ (cX bP) (aJ (cZ bP) (aJ (cY bP) oNx))))) [some (.val (.lst fz (ns.map .int))),some (.val (.int (a:Int))),some (.val (sD s)),none,none])=.ok (ddD d):=by
  clear p0
  intro w hw2 p0
  have q1:=bB ns (a+1) (m:=3) (by omega)
  obtain ⟨r,er⟩:∃ r:Nat,dn ns (a+1) 3=(r:Int):=⟨_,(Int.toNat_of_nonneg q1.1).symm⟩
  have p1:bP [.lst fz (ns.map .int),.int ((a+1:Nat):Int),.int 3]=.ok (.int (r:Int)):=by rw [<- er];exact bT (by omega)
  have e1:(1:Int)+(r:Int)=((1+r:Nat):Int):=by omega
  have rg:bp [.int ((1+r:Nat):Int)]=.ok ((List.range (1+r)).map fun (i:Nat)=>D.int (i:Int)):=gR (by omega)
  let x:List Nat:=(List.range (1+r)).map fun j=>sgA ns (a+3+j)
  have xl:x.length=1+r:=by simp [x]
  have hx:plain x=true:=by
   simp only [plain,List.all_eq_true,x]
   intro c hc
   obtain ⟨j,_,rfl⟩:=List.mem_map.1 hc
   have:=(Bw ns (a+3+j)).2
   simp;omega
  refine ⟨.ord (.say x),by simp only [okD,okO,Bool.and_eq_true,decide_eq_true_eq];exact ⟨hx,by omega⟩,?_⟩
  show _=R.ok (D.tup [.str wDo,.tup [.str [115,97,121],.str x]])
  have cp:jp (fun _=>R.ok true) (g2 ixD (csz [97,98,35,32]) (bf 3 bP (aa (rvz 1) (aa (g2 bL (g2 bL (rvz 2) (ciz 3)) (rvz 0)) (aa (ciz 4) nlz))))) ((List.range (1+r)).map fun (i:Nat)=>D.int (i:Int)) [none,some (.val (.lst fz (ns.map .int))),some (.val (.int (a:Int)))]=.ok (x.map fun c=>.str [c]):=by
   rw [gq (fun d=>match d with|.int j=>.str [sgA ns (a+3+j.toNat)]|_=>.non) _ _ none]
   ·simp only [x,List.map_map];rfl
   ·intro d hd
    obtain ⟨j,_,rfl⟩:=List.mem_map.1 hd
    refine ⟨rfl,?_⟩
    have p4:bP [.lst fz (ns.map .int),.int ((a:Int)+3+(j:Int)),.int 4]=.ok (.int (dn ns (a+3+j) 4)):=by
     rw [show (a:Int)+3+(j:Int)=((a+3+j:Nat):Int) by omega]
     exact bT (by decide)
    have g5:=(Bw ns (a+3+j)).1
    show _=R.ok (D.str [sgA ns (a+3+j)])
    generalize D.lst fz (ns.map .int)=S at *
    clear k1 k2 k3 v q1 er h hr hw hm lb hv hw2 p0 p1 e1 rg xl hx hd go
    walk_at "run"
  have jn:tI (.str []) [.lst false (x.map fun c=>D.str [c])]=some (.str x):=Gp (by omega) _
  have kd:jr "str" (.str [])=true:=rfl
  have inr:∀ a2 a3 a4:Option Sl,kN [0,1] [some (.val (.lst fz (ns.map .int))),some (.val (.int (a:Int))),a2,a3,a4]=[none,some (.val (.lst fz (ns.map .int))),some (.val (.int (a:Int)))]:=fun _ _ _=>rfl
  have z:(x.map fun c=>D.str [c]).length<=sizeLine:=by simp;omega
  unfold cW de cX cZ cY
  have wd:D.str [100,111]=.str wDo:=rfl
  have t1:(w==0)=false:=by rcases hw2 with rfl|rfl <;> rfl
  have t2:(w==1)=false:=by rcases hw2 with rfl|rfl <;> rfl
  have t3:decide (w<4)=false:=by rcases hw2 with rfl|rfl <;> rfl
  generalize x.map (fun c=>D.str [c])=u at *
  generalize D.lst fz (ns.map .int)=S at *
  clear v q1 er h hr hw hm lb hv hw2 k3 k2 xl hx go
  walk_at "run"
 rcases hv with hv|hv|hv|hv|hv|hv
 ·rw [hv] at p0
  have q1:=bB ns (a+1) (m:=5) (by omega)
  have p1:bP [.lst fz (ns.map .int),.int ((a+1:Nat):Int),.int 5]=.ok (.int (dn ns (a+1) 5)):=bT (by omega)
  refine ⟨.scroll (dn ns (a+1) 5 - 2),by simp only [okD,decide_eq_true_eq];omega,?_⟩
  show _=R.ok (D.tup [.str bC,.int (dn ns (a+1) 5 - 2)])
  have wd:D.str [115,99,114,111,108,108]=.str bC:=rfl
  generalize dn ns (a+1) 5=y at *
  generalize D.lst fz (ns.map .int)=S at *
  clear v q1 h hr hw hm lb hv k3 k2 go say
  walk_at "run"
 ·rw [hv] at p0
  refine ⟨.ord .wipe,rfl,?_⟩
  show _=R.ok (D.tup [.str wDo,.tup [.str [119,105,112,101]]])
  have wd:D.str [100,111]=.str wDo:=rfl
  generalize D.lst fz (ns.map .int)=S at *
  clear v h hr hw hm lb hv k3 k2 k1 go say
  walk_at "run"
 ·exact go 2 (.inl rfl) (hv ▸ p0)
 ·exact go 3 (.inr rfl) (hv ▸ p0)
 ·exact say 4 (.inl rfl) (hv ▸ p0)
 ·exact say 5 (.inr rfl) (hv ▸ p0)
end
section
theorem zL {s:St} (h:GS s) {z:Int} (x0 x1 x3 x6:Option Sl) (k:Nat) (acc:List D) (ha:acc.length<=12) :
  dE cG [x0,x1,some (.val (sD s)),x3,some (.own acc),some (.val (.int (z+(k:Int)))),x6]=.nx [x0,x1,some (.val (sD s)),x3,some (.own (acc++[eJ (s.2.1.map .str) s.1 ((k:Int)+z)])),some (.val (.int (z+(k:Int)))),x6]:=by
 have lb:=bo
 have hw:=h.w2
 have i1:ixD (sD s) (.int 1)=some (.tup (s.2.1.map .str)):=rfl
 have i0:ixD (sD s) (.int 0)=some (.int (s.1:Int)):=rfl
 have ln:eZ [.tup (s.2.1.map .str)]=some (.int ((s.2.1.map D.str).length:Int)):=rfl
 have m1:fF (.str [32]) (.int (s.1:Int))=some (.str (List.replicate s.1 32)):=DB (by omega)
 have hal:acc.length<sizeLine:=by omega
 rw [Int.add_comm z]
 generalize hn:(k:Int)+z=n
 unfold dE eJ
 generalize hR:s.2.1.map D.str=rows at *
 have fin:∀ d:D,((if acc.length<sizeLine then O.nx [x0,x1,some (.val (sD s)),x3,some (.own (acc++[d])),some (.val (.int n)),x6] else .no):O).seq oNx=.nx [x0,x1,some (.val (sD s)),x3,some (.own (acc++[d])),some (.val (.int n)),x6]:=fun d=>by rw [if_pos hal];rfl
 by_cases h1:0<=n
 ·by_cases h2:n<rows.length
  ·rw [if_pos ⟨h1,h2⟩]
   obtain ⟨j,rfl⟩:=Int.eq_ofNat_of_zero_le h1
   have q1:decide ((0:Int)<=(j:Int))=true:=by simp
   have q2:decide ((j:Int)<(rows.length:Int))=true:=by simp;omega
   have x2:ixD (.tup rows) (.int (j:Int))=some (rows.getD j .non):=vY (by rw [List.getD_eq_getElem?_getD,List.getElem?_eq_getElem (by omega)];rfl)
   rw [Int.toNat_natCast]
   clear h1 h2 hn hR h hw lb ha
   walk_at "run"
   all_goals exact fin _
  ·have q1:decide ((0:Int)<=n)=true:=by simp [h1]
   have q2:decide (n<(rows.length:Int))=false:=by simp;omega
   rw [if_neg (by omega)]
   clear h1 h2 hn hR h hw lb ha
   walk_at "run"
   all_goals exact fin _
 ·have q1:decide ((0:Int)<=n)=false:=by simp;omega
  rw [if_neg (by omega)]
  clear h1 hn hR h hw lb ha
  walk_at "run"
  all_goals exact fin _
theorem vf {s:St} (h:GS s) {z:Int} (x0 x1 x3 x6:Option Sl):∀ (m k:Nat) (acc:List D) (x5:Option Sl),acc.length+m<=12->
  ∃ y5,dF (jM 5) (dE cG) ((List.range' k m).map fun (i:Nat)=>D.int (z+(i:Int))) [x0,x1,some (.val (sD s)),x3,some (.own acc),x5,x6]=.nx [x0,x1,some (.val (sD s)),x3,some (.own (acc++(List.range' k m).map fun (k:Nat)=>eJ (s.2.1.map .str) s.1 ((k:Int)+z))),y5,x6]
 | 0,k,acc,x5,_=>⟨x5,by simp [dF]⟩
 | m+1,k,acc,x5,hl=>by
  have hB:=zL h (z:=z) x0 x1 x3 x6 k acc (by omega)
  obtain ⟨y5,ih⟩:=vf h (z:=z) x0 x1 x3 x6 m (k+1) (acc++[eJ (s.2.1.map .str) s.1 ((k:Int)+z)]) (some (.val (.int (z+(k:Int))))) (by simp;omega)
  refine ⟨y5,?_⟩
  rw [List.range'_succ,List.map_cons,lN (Z1:=[x0,x1,some (.val (sD s)),x3,some (.own acc),some (.val (.int (z+(k:Int)))),x6]) rfl hB,ih,List.map_cons,List.append_assoc];rfl
theorem HU (s:St) (x:List Nat):eqF (sD s) (.str x)=some (.bl false):=rfl
theorem sk {s:St} {c:Int} {d:Dd} (h:GS s) (ok:okD d=true):bx [.tup [sD s,.int c],ddD d]=.ok (.tup [.tup [sD ((ddS s c d).getD (s,c)).1,.int ((ddS s c d).getD (s,c)).2],jG s c d]):=by
 have lb:=bo
 have hm:=h.m
 have mk2:∀ x y,mkT [x,y]=.ok (.tup [x,y]):=fun _ _=>rfl
 have mk3:∀ x y z,mkT [x,y,z]=.ok (.tup [x,y,z]):=fun _ _ _=>rfl
 have i2:ixD (sD s) (.int 2)=some (.tup [.int (s.2.2.1:Int),.int (s.2.2.2:Int)]):=rfl
 have i1:ixD (sD s) (.int 1)=some (.tup (s.2.1.map .str)):=rfl
 have i0:ixD (sD s) (.int 0)=some (.int (s.1:Int)):=rfl
 have asg:∀ (x1 a2 a3 a4 a5 a6:Option Sl),zD [2,3] (.tup [sD s,.int c]) [some (.val (.tup [sD s,.int c])),x1,a2,a3,a4,a5,a6]=.ok [some (.val (.tup [sD s,.int c])),x1,some (.val (sD s)),some (.val (.int c)),a4,a5,a6]:=fun _ _ _ _ _ _=>rfl
 show aK (aJ _ _ [some (.val (.tup [sD s,.int c])),some (.val (ddD d)),none,none,none,none,none])=_
 unfold iU jd jB iW iR iZ
 cases d with
 | scroll z=>
  simp only [okD,decide_eq_true_eq] at ok
  have d0:ixD (ddD (.scroll z)) (.int 0)=some (.str bC):=rfl
  have d1:ixD (ddD (.scroll z)) (.int 1)=some (.int z):=rfl
  have ln:eZ [.tup (s.2.1.map .str)]=some (.int (s.2.1.length:Int)):=by simp [eZ]
  have rg:iE [.int z,.int (z+(s.2.1.length:Int))]=.ok ((List.range' 0 s.2.1.length).map fun (i:Nat)=>D.int (z+(i:Int))):=by
   have e:iE [.int z,.int (z+(s.2.1.length:Int))]=if -(2 ^ 62)<=z/\z<2 ^ 62/\-(2 ^ 62)<=z+(s.2.1.length:Int)/\z+(s.2.1.length:Int)<2 ^ 62 then .ok ((List.range (z+(s.2.1.length:Int) - z).toNat).map fun k=>D.int (z+(k:Nat))) else .no:=by simp only [iE]
   rw [e,if_pos (by refine ⟨?_,?_,?_,?_⟩ <;> omega),show (z+(s.2.1.length:Int) - z).toNat=s.2.1.length by omega,List.range_eq_range']
  obtain ⟨y5,lp⟩:=vf h (z:=z) (some (.val (.tup [sD s,.int c]))) (some (.val (ddD (.scroll z)))) (some (.val (.int c))) none s.2.1.length 0 [] none (by simpa using hm)
  have er:([]:List D)++((List.range' 0 s.2.1.length).map fun (k:Nat)=>eJ (s.2.1.map .str) s.1 ((k:Int)+z))=cA (s.2.1.map .str) s.1 z:=by
   unfold cA;rw [List.nil_append,List.length_map,List.range_eq_range']
  rw [er] at lp
  have tp:ju [.lst false (cA (s.2.1.map .str) s.1 z)]=some (.tup (cA (s.2.1.map .str) s.1 z)):=rfl
  have fr:∀ (a0 a1 a2 a3 a5 a6:Option Sl) (l:List D),frz 4 [a0,a1,a2,a3,some (.own l),a5,a6]=[a0,a1,a2,a3,some (.val (.lst false l)),a5,a6]:=fun _ _ _ _ _ _ _=>rfl
  have wd:D.str [115,99,114,111,108,108]=.str bC:=rfl
  have z0:(0:Nat)<=sizeLine:=by omega
  have eS:sD (stS s z)=.tup [.int (s.1:Int),.tup (cA (s.2.1.map .str) s.1 z),.tup [.int (s.2.2.1:Int),.int (s.2.2.2:Int)]]:=by rw [vE];rfl
  show _=R.ok (D.tup [.tup [sD (stS s z),.int (c+0)],.non])
  rw [eS,Int.add_zero]
  have ww:(bC==bC)=true:=by simp
  generalize (List.range' 0 s.2.1.length).map (fun (i:Nat)=>D.int (z+(i:Int)))=rr at *
  generalize cA (s.2.1.map .str) s.1 z=sr at *
  clear lb hm h ok er eS
  walk_at "run"
 | ord o=>
  have d0:ixD (ddD (.ord o)) (.int 0)=some (.str wDo):=rfl
  have d1:ixD (ddD (.ord o)) (.int 1)=some (oD o):=rfl
  have st:=Dq h ok
  have w1:(wDo==[115,99,114,111,108,108])=false:=by decide
  cases q:di s o with
  | none=>
   rw [q] at st
   replace st:cG [sD s,oD o]=.ok (.str fA):=st
   have e0:ddS s c (.ord o)=none:=by simp only [ddS,q,Option.map_none]
   have e1:jG s c (.ord o)=.str fA:=by simp only [jG,q]
   rw [e0,e1,Option.getD_none]
   dsimp only
   have ww:(fA==[110,111,32,114,111,111,109])=true:=by decide
   clear lb hm h ok q e0 e1
   walk_at "run"
  | some s'=>
   rw [q] at st
   replace st:cG [sD s,oD o]=.ok (sD s'):=st
   have e0:ddS s c (.ord o)=some (s',c+(kK o:Int)):=by simp only [ddS,q,Option.map_some]
   have e1:jG s c (.ord o)=.int (c+(kK o:Int)):=by simp only [jG,q]
   rw [e0,e1,Option.getD_some]
   dsimp only
   have ne:=HU s' [110,111,32,114,111,111,109]
   cases o with
   | say x=>
    have o0:ixD (oD (.say x)) (.int 0)=some (.str [115,97,121]):=rfl
    have o1:ixD (oD (.say x)) (.int 1)=some (.str x):=rfl
    have l1:eZ [.str x]=some (.int (x.length:Int)):=rfl
    have k1:kK (.say x)=x.length:=rfl
    have b1:(([115,97,121]:List Nat)==[115,97,121])=true:=by decide
    rw [k1]
    clear lb hm h ok q e0 e1 k1
    walk_at "run"
   | go n k=>
    have o0:ixD (oD (.go n k)) (.int 0)=some (.str [103,111]):=rfl
    have k1:((kK (.go n k):Nat):Int)=1+1:=rfl
    have b1:(([103,111]:List Nat)==[115,97,121])=false:=by decide
    have b2:(([103,111]:List Nat)==[103,111])=true:=by decide
    have io:fK [.bl true]=some (.int 1):=rfl
    rw [k1]
    clear lb hm h ok q e0 e1 k1
    walk_at "run"
   | wipe=>
    have o0:ixD (oD .wipe) (.int 0)=some (.str [119,105,112,101]):=rfl
    have k1:((kK .wipe:Nat):Int)=1+0:=rfl
    have b1:(([119,105,112,101]:List Nat)==[115,97,121])=false:=by decide
    have b2:(([119,105,112,101]:List Nat)==[103,111])=false:=by decide
    have io:fK [.bl false]=some (.int 0):=rfl
    rw [k1]
    clear lb hm h ok q e0 e1 k1
    walk_at "run"
end
end Q
namespace Q
open L2
open PySem (sizeLine Addr)
section
variable {ae Cs Co Cr:Addr}
theorem vw {p:Addr} {fs:List (Nat×Fd)} (ho:Z[i]?=some (some (.obj true C p fs))) (ha:gl Z=.ok ds) (hl:ds.length=n) (hF:F fs ds=.ok d fs'):dR C i n F gl Z=.re d (Z.set i (some (.obj true C p fs'))):=by
 unfold dR DW
 rw [ho]
 dsimp only
 rw [if_pos rfl,R.ok_out,ha,R.ok_out]
 dsimp only
 rw [if_pos hl,hF];rfl
theorem zt {s s':St} {o:Od} (e:di s o=some s'):s'.1=s.1/\s'.2.1.length=s.2.1.length:=by
 obtain ⟨wd,rows,r,c⟩:=s
 cases o with
 | say x=>
  simp only [di] at e
  split at e
  ·cases e
  ·cases e;exact ⟨rfl,by simp⟩
 | go n k=>
  simp only [di] at e
  split at e
  ·cases e
  ·cases e;exact ⟨rfl,rfl⟩
 | wipe=>simp only [di] at e;cases e;exact ⟨rfl,by simp⟩
theorem CP {s:St} {c:Int} {d:Dd} {r:St×Int} (e:ddS s c d=some r):r.1.1=s.1/\r.1.2.1.length=s.2.1.length:=by
 cases d with
 | scroll z=>cases e;exact ⟨rfl,by simp [stS]⟩
 | ord o=>
  simp only [ddS] at e
  cases q:di s o with
  | none=>rw [q] at e;cases e
  | some s'=>rw [q] at e;cases e;exact zt q
theorem E7 (s:St) (c:Int) (d:Dd):cl 10 (jG s c d)=true:=by
 cases d with
 | scroll z=>rfl
 | ord o=>simp only [jG];split <;> rfl
theorem EY (s:St) (c:Int):cl 10 (.tup [sD s,.int c])=true:=by
 have h:(s.2.1.map D.str).all (cl 7)=true:=by
  rw [List.all_eq_true];intro d hd;obtain ⟨x,_,rfl⟩:=List.mem_map.1 hd;rfl
 simp only [sD,scr,cl,List.all_cons,List.all_nil,h,Bool.and_true,Bool.and_self]
def fsB (s:St) (c:Int) (d:Dd) (l tk:List D) (a:D):List (Nat×Fd):=match ddS s c d with
 | some r=>bt (l++[st3 a (sD s) c]++[st3 (iy d) (sD r.1) r.2]) []
 | none=>bt (l++[st3 a (sD s) c]) tk
end
end Q
namespace Q
open L2
open PySem (sizeLine Addr)
def gm (ae:Addr) (aR aE:MF):Addr×Unit->Ev->Option (Addr×List (Nat×Fd)):=(Gx ae 1 aE 1 (aa (cP ae 0 aR) nlz) (D0 (jl ae 1 0 (nW ae 0 0)) (D0 (jl ae 1 1 (nW ae 0 1)) (Hi ae 1))))
noncomputable def ff (Cs:Addr):TF:=fun fs=>match xc fs,fI fs [] with
 | some (sts,tk),.rd b=>(match yf (eX Cs) 1 [b] with
  | .ok fs0=>if fs0.length<900/\(iJ 0 (.own sts) fs0).length<900 then some (iJ 1 (.own tk) (iJ 0 (.own sts) fs0)) else none
  | _=>none)
 | _,_=>none
theorem FO {Cp:Addr}:∀ (p:Addr) (fs fs':List (Nat×Fd)),ff Cs fs=some fs'->∀ q:Addr×Unit,gm Cp fI (eX Cs) q (ci false Cp p fs 2 [])=some (q.1,fs'):=by
 intro p fs fs' h q
 unfold ff at h
 split at h
 ·rename_i sts tk b e1 e2
  have e:=pi e1
  subst e
  split at h
  ·rename_i fs0 e3
   split at h
   ·rename_i hz
    cases h
    have gl:(aa (cP Cp 0 fI) nlz) (ci false Cp p (bt sts tk) 2 [])=.ok [b]:=by
     show ((iH Cp _ 0>>=fun fs=>(fI fs []).read)>>=_)=_
     rw [bZ (m:=false) (C:=Cp) (p:=p) (fs:=bt sts tk) rfl,R.ok_bind,e2];rfl
    unfold gm Gx
    rw [gl,R.ok_bind,e3]
    have o1:∀ x,jl Cp 1 0 (nW Cp 0 0) [some (.obj false Cp p (bt sts tk)),some (.obj true Cp x fs0)]=.nx [some (.obj false Cp p (bt sts tk)),some (.obj true Cp x (iJ 0 (.own sts) fs0))]:=fun x=>by
     unfold jl nW
     rw [da (C:=Cp) (p:=x) (fs:=fs0) rfl,R.ok_out,bZ (m:=false) (C:=Cp) (p:=p) (fs:=bt sts tk) rfl]
     exact if_pos hz.1
    have o2:∀ x,jl Cp 1 1 (nW Cp 0 1) [some (.obj false Cp p (bt sts tk)),some (.obj true Cp x (iJ 0 (.own sts) fs0))]=.nx [some (.obj false Cp p (bt sts tk)),some (.obj true Cp x (iJ 1 (.own tk) (iJ 0 (.own sts) fs0)))]:=fun x=>by
     unfold jl nW
     rw [da (C:=Cp) (p:=x) (fs:=iJ 0 (.own sts) fs0) rfl,R.ok_out,bZ (m:=false) (C:=Cp) (p:=p) (fs:=bt sts tk) rfl]
     exact if_pos hz.2
    show D0 _ _ () [some (.obj false Cp p (bt sts tk)),some (.obj true Cp q.1 fs0)]=_
    unfold D0
    rw [o1]
    show (match jl Cp 1 1 (nW Cp 0 1) [some (.obj false Cp p (bt sts tk)),some (.obj true Cp q.1 (iJ 0 (.own sts) fs0))] with|.nx Z'=>_|_=>none)=_
    rw [o2]
    exact if_pos rfl
   ·cases h
  ·cases h
 ·cases h
theorem DE {l tk:List D} {a:D} {s:St} {c:Int} (h:GS s):ff Cs (bt (l++[st3 a (sD s) c]) tk)=some (bt (l++[st3 a (sD s) c]) tk):=by
 unfold ff
 have e:xc (bt (l++[st3 a (sD s) c]) tk)=some (l++[st3 a (sD s) c],tk):=rfl
 rw [e,AV]
 dsimp only
 rw [yx h]
 exact if_pos ⟨by show 2<900;decide,by show 2<900;decide⟩
end Q
namespace Q86
open L2 Q
open PySem (sizeLine Addr)
abbrev vL (f:Bool) (n:List Int):Option Sl:=some (.val (.lst f (n.map .int)))
abbrev vI (n:Nat):Option Sl:=some (.val (.int (n:Int)))
abbrev vD (d:D):Option Sl:=some (.val d)
abbrev vO (c p:Addr) (f:List (Nat×Fd)):Option Sl:=some (.obj true c p f)
def vC (ae:Addr) (T_Pad_twin:TF) (aH aA:MF) (aG ay:MF) (aC aE:MF) (az:R D->R D) (aD aB av:List D->R D):Ev->O:=(eB 1 (aS mkT (aa (bf 2 aD (aa (rvz 0) (aa (ciz 10) nlz))) (aa (ciz 0) nlz))))
noncomputable def qX (ae:Addr) (T_Pad_twin:TF) (aH aA:MF) (aG ay:MF) (aC aE:MF) (az:R D->R D) (aD aB av:List D->R D):Ev->O:=(aJ (eB 5 (bf 3 aB (aa (rvz 0) (aa (g2 bL (ciz 600) (g2 fF (ciz 10) (rvz 4))) (aa (g2 ixD (g2 ixD (rvz 3) (aS uZ (ciz 1))) (ciz 0)) nlz))))) (aJ (D2 (zD [6,7]) (bf 2 av (aa (g2 ixD (rvz 3) (aS uZ (ciz 1))) (aa (rvz 5) nlz)))) (aJ (qy (dR ae 2 1 aH (aa (rvz 5) nlz))) (aJ (eB 3 (g2 bL (rvz 3) (g2 fF (cQ (sw (aa (rvz 6) nlz))) (gOf fK (aa (g2 neF (rvz 7) (csz [110,111,32,114,111,111,109])) nlz))))) oNx))))
def qC (ae:Addr) (T_Pad_twin:TF) (aH aA:MF) (aG ay:MF) (aC aE:MF) (az:R D->R D) (aD aB av:List D->R D):Ev->O:=(sv (jM 4) (aS bp (aa (ciz 10) nlz)) (qX ae T_Pad_twin aH aA aG ay aC aE az aD aB av))
def uT (ae:Addr) (T_Pad_twin:TF) (aH aA:MF) (aG ay:MF) (aC aE:MF) (az:R D->R D) (aD aB av:List D->R D):Ev->O:=(eB 8 (g2 xh (gOf eZ (aa (rvz 3) nlz)) (ciz 1)))
def vi (ae:Addr) (T_Pad_twin:TF) (aH aA:MF) (aG ay:MF) (aC aE:MF) (az:R D->R D) (aD aB av:List D->R D):Ev->O:=(oIf (gB2 gtD (rvz 8) (ciz 0)) (aJ (fW ae 2 aG) oNx) oNx)
noncomputable def vh (ae:Addr) (T_Pad_twin:TF) (aH aA:MF) (aG ay:MF) (aC aE:MF) (az:R D->R D) (aD aB av:List D->R D):Ev->O:=(oIf (su (gB2 neF (cP ae 9 ay) (cP ae 2 ay)) (gB2 neF (hV ae 9 0 aA nlz) (hV ae 2 0 aA nlz))) (aJ (cg (fun _=>R.ok (D.bl false))) oNx) oNx)
noncomputable def nZ (ae:Addr) (T_Pad_twin:TF) (aH aA:MF) (aG ay:MF) (aC aE:MF) (az:R D->R D) (aD aB av:List D->R D):Ev->O:=(aJ (eB 5 (bf 3 aB (aa (rvz 0) (aa (g2 bL (rvz 11) (g2 fF (ciz 10) (rvz 4))) (aa (g2 ixD (rvz 12) (ciz 0)) nlz))))) (aJ (D2 (zD [12,7]) (bf 2 av (aa (rvz 12) (aa (rvz 5) nlz)))) (aJ (zG (xE neF (dR ae 10 1 aH (aa (rvz 5) nlz)) (rvz 7)) (aJ (cg (fun _=>R.ok (D.bl false))) oNx) oNx) (aJ (eB 13 (g2 bL (rvz 13) (gOf fK (aa (g2 neF (rvz 7) (csz [110,111,32,114,111,111,109])) nlz)))) oNx))))
def xu (ae:Addr) (T_Pad_twin:TF) (aH aA:MF) (aG ay:MF) (aC aE:MF) (az:R D->R D) (aD aB av:List D->R D):Ev->O:=(aJ (fW ae 10 aG) oNx)
def yi (ae:Addr) (T_Pad_twin:TF) (aH aA:MF) (aG ay:MF) (aC aE:MF) (az:R D->R D) (aD aB av:List D->R D):Ev->O:=(aJ (fW ae 10 aC) oNx)
noncomputable def nq (ae:Addr) (T_Pad_twin:TF) (aH aA:MF) (aG ay:MF) (aC aE:MF) (az:R D->R D) (aD aB av:List D->R D):Ev->O:=(aJ (oIf (gB2 gtD (rvz 8) (ciz 0)) (aJ (fW ae 10 aC) oNx) oNx) (aJ (Gw 12 13 (aa (g2 ixD (rvz 3) (aS uZ (ciz 1))) (aa (rvz 8) nlz))) (aJ (oIf (gB2 neF (hV ae 10 0 aA nlz) (rvz 12)) (aJ (cg (fun _=>R.ok (D.bl false))) oNx) oNx) (aJ (sv (jM 4) (aS bp (aa (ciz 4) nlz)) (nZ ae T_Pad_twin aH aA aG ay aC aE az aD aB av)) (aJ (sv (jM 4) (aS bp (aa (rvz 13) nlz)) (xu ae T_Pad_twin aH aA aG ay aC aE az aD aB av)) (aJ (zG (xOr (Bx (gB2 neF (hV ae 10 0 aA nlz) (rvz 1))) (xE neF (pv az ae 10 [] (dR ae 0 0 aG nlz)) (csz [110,111,32,98,97,99,107]))) (aJ (cg (fun _=>R.ok (D.bl false))) oNx) oNx) (aJ (sv (jM 4) (aS bp (aa (rvz 13) nlz)) (yi ae T_Pad_twin aH aA aG ay aC aE az aD aB av)) (aJ (oIf (su (gB2 neF (hV ae 10 0 aA nlz) (rvz 12)) (gB2 neF (cP ae 10 ay) (aS mkT (aa (rvz 13) (aa (ciz 0) nlz))))) (aJ (cg (fun _=>R.ok (D.bl false))) oNx) oNx) oNx))))))))
def pS (ae:Addr) (T_Pad_twin:TF) (aH aA:MF) (aG ay:MF) (aC aE:MF) (az:R D->R D) (aD aB av:List D->R D):Ev->O:=(C3 ae 2 9 10 11 1000 2000 (nq ae T_Pad_twin aH aA aG ay aC aE az aD aB av))
def yT (ae:Addr) (T_Pad_twin:TF) (aH aA:MF) (aG ay:MF) (aC aE:MF) (az:R D->R D) (aD aB av:List D->R D):Ev->O:=(cg (fun _=>R.ok (D.bl true)))
noncomputable def sP (ae:Addr) (T_Pad_twin:TF) (aH aA:MF) (aG ay:MF) (aC aE:MF) (az:R D->R D) (aD aB av:List D->R D):Ev->O:=(aJ (vh ae T_Pad_twin aH aA aG ay aC aE az aD aB av) (aJ (pS ae T_Pad_twin aH aA aG ay aC aE az aD aB av) (aJ (yT ae T_Pad_twin aH aA aG ay aC aE az aD aB av) oNx)))
noncomputable def mK (ae:Addr) (T_Pad_twin:TF) (aH aA:MF) (aG ay:MF) (aC aE:MF) (az:R D->R D) (aD aB av:List D->R D):Addr×Addr×Unit->Ev->O:=(vU (vC ae T_Pad_twin aH aA aG ay aC aE az aD aB av) (xN ae 2 3 aE 1 (aa (g2 ixD (rvz 1) (ciz 0)) nlz) (cQ (sw (aa (rvz 1) nlz))) (vU (qC ae T_Pad_twin aH aA aG ay aC aE az aD aB av) (vU (uT ae T_Pad_twin aH aA aG ay aC aE az aD aB av) (vU (vi ae T_Pad_twin aH aA aG ay aC aE az aD aB av) (vF ae 2 9 T_Pad_twin (CN (sP ae T_Pad_twin aH aA aG ay aC aE az aD aB av))))))))
abbrev En:=D×Q.St×Int
def e3 (x:En):D:=st3 x.1 (sD x.2.1) x.2.2
def bO (x:En):D:=.tup [sD x.2.1,.int x.2.2]
structure WF (x:En):Prop where
 gs:GS x.2.1
 w:x.2.1.1<=8
 m:x.2.1.2.1.length<=4
def fsE (l:List En) (e:En) (post:List En):List (Nat×Fd):=bt (l.map e3++[e3 e]) (post.reverse.map e3)
def bU (l:List En) (e:En):D:=.lst false ((l++[e]).map bO)
theorem uH (e:En):cl 10 (bO e)=true:=EY _ _
section
variable {ae Cs Co Cr Cb p:Addr} {T:R D->R D} {S b:D}
theorem uJ (l:List En) (e:En) (post:List En):dz (fsE l e post) []=.rd (bO e):=DQ
theorem vp (l:List En) (e:En) (post:List En):bz (fsE l e post) []=.rd (.tup [.int (l.length:Int),.int (post.length:Int)]):=by
 have:=yu (sts:=l.map e3++[e3 e]) (tk:=post.reverse.map e3)
 rw [show ((l.map e3++[e3 e]).length:Int) - 1=(l.length:Int) by simp,show (post.reverse.map e3).length=post.length by simp] at this
 exact this
theorem A5 (l:List En) (e0 e:En) (post:List En) (h:post.length<900):cO Cb (fsE (l++[e0]) e post) []=.ok e.1 (fsE l e0 (e::post)):=by
 have f1:fsE (l++[e0]) e post=bt ((l.map e3++[e3 e0])++[st3 e.1 (sD e.2.1) e.2.2]) (post.reverse.map e3):=by unfold fsE;simp [e3]
 rw [f1,CZ (by simp) (by simp;omega)]
 unfold fsE;simp [e3]
theorem zl (l:List En) (e e1:En) (post:List En) (h:l.length<900):bR Cb (fsE l e (e1::post)) []=.ok e1.1 (fsE (l++[e]) e1 post):=by
 have f1:fsE l e (e1::post)=bt (l.map e3++[e3 e]) (post.reverse.map e3++[st3 e1.1 (sD e1.2.1) e1.2.2]):=by unfold fsE;simp [e3]
 rw [f1,Au (by simp;omega)]
 unfold fsE;simp [e3]
theorem EA (hT:T (.ex Cr)=.ok (.str fA)) (l:List En) (e:En) (post:List En) (he:WF e) (d:Dd) (ok:okD d=true) (h:l.length<900):(ddS e.2.1 e.2.2 d=none/\jG e.2.1 e.2.2 d=.str fA/\fM Cs Co Cr T (fsE l e post) [ddD d]=.ok (jG e.2.1 e.2.2 d) (fsE l e post))\/
  ∃ s' c',ddS e.2.1 e.2.2 d=some (s',c')/\WF (iy d,s',c')/\neF (jG e.2.1 e.2.2 d) (.str [110,111,32,114,111,111,109])=some (.bl true)/\fM Cs Co Cr T (fsE l e post) [ddD d]=.ok (jG e.2.1 e.2.2 d) (fsE (l++[e]) (iy d,s',c') []):=by
 have hdid:fM Cs Co Cr T (fsE l e post) [ddD d]=.ok (jG e.2.1 e.2.2 d) (fsB e.2.1 e.2.2 d (l.map e3) (post.reverse.map e3) e.1):=EG (Cs:=Cs) (Co:=Co) (T:=T) (c:=e.2.2) (l:=l.map e3) (tk:=post.reverse.map e3) (a:=e.1) he.gs ok hT (by simp;omega)
 cases q:ddS e.2.1 e.2.2 d with
 | none=>
  have ed:jG e.2.1 e.2.2 d=.str fA:=by
   cases d with
   | scroll z=>cases q
   | ord o=>
    simp only [ddS] at q
    cases q2:di e.2.1 o with
    | none=>simp only [jG,q2]
    | some s'=>rw [q2] at q;cases q
  have ef:fsB e.2.1 e.2.2 d (l.map e3) (post.reverse.map e3) e.1=fsE l e post:=by unfold fsB;rw [q];rfl
  rw [ef] at hdid
  exact .inl ⟨rfl,ed,hdid⟩
 | some rr=>
  obtain ⟨s',c'⟩:=rr
  have g1:=FE he.gs ok q
  obtain ⟨z1,z2⟩:=CP q
  dsimp only at g1 z1 z2
  have hw:=he.w
  have hm:=he.m
  have ef:fsB e.2.1 e.2.2 d (l.map e3) (post.reverse.map e3) e.1=fsE (l++[e]) (iy d,s',c') []:=by unfold fsB;rw [q];unfold fsE;simp [e3]
  rw [ef] at hdid
  refine .inr ⟨s',c',rfl,⟨g1,by show s'.1<=8;omega,by show s'.2.1.length<=4;omega⟩,?_,hdid⟩
  cases d with
  | scroll z=>rfl
  | ord o=>
   simp only [ddS] at q
   cases q2:di e.2.1 o with
   | none=>rw [q2] at q;cases q
   | some s'=>simp only [jG,q2];rfl
theorem kR {fs:List (Nat×Fd)} (ho:Z[i]?=some (vO C p fs)) (hF:F fs []=.ok d fs'):fW C i F Z=.nx (Z.set i (vO C p fs')):=by
 unfold fW
 rw [da ho,R.ok_out]
 show (F fs []).out C p i Z=_
 rw [hF];rfl
abbrev v14 (a0 a1 a2 a3 a4 a5 a6 a7 a8 a9 a10 a11 a12 a13:Option Sl):Ev:=[a0,a1,a2,a3,a4,a5,a6,a7,a8,a9,a10,a11,a12,a13]
theorem FM {a0 a1 a2 a3 a5 a6 a7 a8 a9 a11 a12 a13:Option Sl} {g:Ev->O} (hg:∀ Z,g Z=aJ (fW ae 10 (cO Cb)) oNx Z):∀ (n k:Nat) (l:List En) (e:En) (post:List En) (x4:Option Sl) (hd:En) (tl:List En),l.length=n->l++e::post=hd::tl->l.length+post.length<900->
  ∃ y4,dF (jM 4) g ((List.range' k n).map fun (i:Nat)=>D.int (i:Int)) (v14 a0 a1 a2 a3 x4 a5 a6 a7 a8 a9 (vO ae p (fsE l e post)) a11 a12 a13)=.nx (v14 a0 a1 a2 a3 y4 a5 a6 a7 a8 a9 (vO ae p (fsE [] hd tl)) a11 a12 a13)
 | 0,k,l,e,post,x4,hd,tl,hn,hl,hlen=>by
  obtain rfl:=List.length_eq_zero_iff.1 hn
  injection hl with h1 h2
  subst h1 h2
  exact ⟨x4,rfl⟩
 | n+1,k,l,e,post,x4,hd,tl,hn,hl,hlen=>by
  rcases List.eq_nil_or_concat l with rfl|⟨l0,e0,rfl⟩
  ·simp at hn
  ·rw [List.concat_eq_append] at *
   have m:=A5 (Cb:=Cb) l0 e0 e post (by omega)
   obtain ⟨y4,ih⟩:=FM hg n (k+1) l0 e0 (e::post) (vI k) hd tl (by simpa using hn) (by simpa using hl) (by simp at hlen ⊢;omega)
   refine ⟨y4,?_⟩
   rw [List.range'_succ,List.map_cons,lN (Z1:=v14 a0 a1 a2 a3 (vI k) a5 a6 a7 a8 a9 (vO ae p (fsE (l0++[e0]) e post)) a11 a12 a13) rfl (Z2:=v14 a0 a1 a2 a3 (vI k) a5 a6 a7 a8 a9 (vO ae p (fsE l0 e0 (e::post))) a11 a12 a13) ?_,ih]
   rw [hg]
   exact congrArg (fun o:O=>o.seq oNx) (kR (p:=p) rfl m)
theorem A8 {a0 a1 a2 a3 a5 a6 a7 a8 a9 a11 a12 a13:Option Sl} {g:Ev->O} (hg:∀ Z,g Z=aJ (fW ae 10 (bR Cb)) oNx Z):∀ (n k:Nat) (l:List En) (e:En) (post:List En) (x4:Option Sl) (l':List En) (e':En),post.length=n->l++e::post=l'++[e']->l.length+post.length<900->
  ∃ y4,dF (jM 4) g ((List.range' k n).map fun (i:Nat)=>D.int (i:Int)) (v14 a0 a1 a2 a3 x4 a5 a6 a7 a8 a9 (vO ae p (fsE l e post)) a11 a12 a13)=.nx (v14 a0 a1 a2 a3 y4 a5 a6 a7 a8 a9 (vO ae p (fsE l' e' [])) a11 a12 a13)
 | 0,k,l,e,post,x4,l',e',hn,hl,hlen=>by
  obtain rfl:=List.length_eq_zero_iff.1 hn
  obtain ⟨h1,h2⟩:=List.append_inj' hl rfl
  injection h2 with h2
  subst h1 h2
  exact ⟨x4,rfl⟩
 | n+1,k,l,e,post,x4,l',e',hn,hl,hlen=>by
  cases post with
  | nil=>simp at hn
  | cons e1 post=>
   have m:=zl (Cb:=Cb) l e e1 post (by omega)
   obtain ⟨y4,ih⟩:=A8 hg n (k+1) (l++[e]) e1 post (vI k) l' e' (by simpa using hn) (by simpa using hl) (by simp at hlen ⊢;omega)
   refine ⟨y4,?_⟩
   rw [List.range'_succ,List.map_cons,lN (Z1:=v14 a0 a1 a2 a3 (vI k) a5 a6 a7 a8 a9 (vO ae p (fsE l e (e1::post))) a11 a12 a13) rfl (Z2:=v14 a0 a1 a2 a3 (vI k) a5 a6 a7 a8 a9 (vO ae p (fsE (l++[e]) e1 post)) a11 a12 a13) ?_,ih]
   rw [hg]
   exact congrArg (fun o:O=>o.seq oNx) (kR (p:=p) rfl m)
end
section
variable {ae Cs Co Cr Cb p:Addr} {T:R D->R D} {b:D}
theorem qE (l:List En) (e:En):ixD (bU l e) (.int (-1))=some (bO e):=by
 unfold bU
 rw [List.map_append]
 show atI _ _=_
 have e1:ixN (l.length+1) (-1)=some l.length:=by
  unfold ixN
  rw [if_neg (by omega),if_pos (by omega)]
  congr 1
  omega
 simp only [atI,List.length_append,List.length_map,List.map_cons,List.map_nil,List.length_cons,List.length_nil,Nat.zero_add,e1]
 simp
theorem Hg {ns:List Int} (hT:T (.ex Cr)=.ok (.str fA)) (l:List En) (e:En) (he:WF e) (hlen:l.length<800) (k:Nat) (x5 x6 x7 a8 a9 a10 a11 a12 a13:Option Sl) {Tw:TF} {M1 M2 M3 M4 M5:MF} :
  ∃ l' e' r y5 y6 y7,WF e'/\(l'=l\/l'=l++[e])/\l'.length<=l.length+1/\l'++[e']=l++[e]++r/\
   qX ae Tw (fM Cs Co Cr T) M1 M2 M3 M4 M5 T F1 dw bx (v14 (vL fz ns) (vD b) (vO ae p (fsE l e [])) (vD (bU l e)) (vI k) x5 x6 x7 a8 a9 a10 a11 a12 a13)
    = .nx (v14 (vL fz ns) (vD b) (vO ae p (fsE l' e' [])) (vD (bU l' e')) (vI k) y5 y6 y7 a8 a9 a10 a11 a12 a13):=by
 obtain ⟨d,ok,hd⟩:=xU (fz:=fz) (ns:=ns) (a:=600+10 * k) he.gs he.w he.m
 have hb:bx [bO e,ddD d]=_:=sk (c:=e.2.2) he.gs ok
 have r:=qE l e
 have ng:uZ (.int 1)=.ok (.int (-1)):=rfl
 have m10:fF (.int 10) (.int (k:Int))=some (.int (10 * (k:Int))):=by simp only [fF];rfl
 have k0:(600:Int)+10 * (k:Int)=((600+10 * k:Nat):Int):=by omega
 have ix0:ixD (bO e) (.int 0)=some (sD e.2.1):=rfl
 have as:∀ (v w:D) (a0 a1 a2 a3 a4 a5 a6 a7 a8 a9 a10 a11 a12 a13:Option Sl),zD [6,7] (.tup [v,w]) [a0,a1,a2,a3,a4,a5,a6,a7,a8,a9,a10,a11,a12,a13]=.ok [a0,a1,a2,a3,a4,a5,vD v,vD w,a8,a9,a10,a11,a12,a13]:=fun _ _ _ _ _ _ _ _ _ _ _ _ _ _ _ _=>rfl
 have ex:∀ (fs fs':List (Nat×Fd)) (v:D) (a0 a1 a3 a4 a6 a7 a8 a9 a10 a11 a12 a13:Option Sl),fM Cs Co Cr T fs [ddD d]=.ok v fs'->qy (dR ae 2 1 (fM Cs Co Cr T) (aa (rvz 5) nlz)) [a0,a1,vO ae p fs,a3,a4,vD (ddD d),a6,a7,a8,a9,a10,a11,a12,a13]=.nx [a0,a1,vO ae p fs',a3,a4,vD (ddD d),a6,a7,a8,a9,a10,a11,a12,a13]:=fun fs fs' v a0 a1 a3 a4 a6 a7 a8 a9 a10 a11 a12 a13 h=>by
  have e:dR ae 2 1 (fM Cs Co Cr T) (aa (rvz 5) nlz) [a0,a1,vO ae p fs,a3,a4,vD (ddD d),a6,a7,a8,a9,a10,a11,a12,a13]=.re v [a0,a1,vO ae p fs',a3,a4,vD (ddD d),a6,a7,a8,a9,a10,a11,a12,a13]:=vw rfl rfl rfl h
  unfold qy
  rw [e];rfl
 have lb:=bo
 have z1:(1:Nat)<=sizeLine:=by omega
 rcases EA (Cs:=Cs) (Co:=Co) (Cr:=Cr) hT l e [] he d ok (by omega) with ⟨q,ed,hx⟩|⟨s',c',q,he',nn,hx⟩
 ·rw [q,ed] at hb
  dsimp only [Option.getD_none] at hb
  have hx:=fun a0 a1 a3 a4 a6 a7 a8 a9 a10 a11 a12 a13=>ex _ _ _ a0 a1 a3 a4 a6 a7 a8 a9 a10 a11 a12 a13 hx
  refine ⟨l,e,[],vD (ddD d),vD (bO e),vD (.str fA),he,.inl rfl,by omega,by simp,?_⟩
  have nn:neF (.str fA) (.str [110,111,32,114,111,111,109])=some (.bl false):=rfl
  have i0:fK [.bl false]=some (.int 0):=rfl
  have m0:∀ x,fF (.lst false [x]) (.int 0)=some (.lst false []):=fun x=>rfl
  have a1:bL (bU l e) (.lst false [])=some (bU l e):=by
   unfold bU
   simp only [bL]
   rw [if_pos (by simp;omega),List.append_nil]
  have er:D.tup [sD e.2.1,.int e.2.2]=bO e:=rfl
  rw [er] at hb
  dsimp only [v14,vL,vI,vD,vO]
  generalize fsE l e []=fs at *
  generalize bU l e=rr at *
  generalize bO e=re at *
  generalize D.lst fz (ns.map .int)=S at *
  unfold qX
  clear hT ok q ed ex er he hlen lb
  walk_at "run"
 ·rw [q] at hb
  dsimp only [Option.getD_some] at hb
  have hx:=fun a0 a1 a3 a4 a6 a7 a8 a9 a10 a11 a12 a13=>ex _ _ _ a0 a1 a3 a4 a6 a7 a8 a9 a10 a11 a12 a13 hx
  refine ⟨l++[e],(iy d,s',c'),[(iy d,s',c')],vD (ddD d),vD (.tup [sD s',.int c']),vD (jG e.2.1 e.2.2 d),he',.inr rfl,by simp,rfl,?_⟩
  have i0:fK [.bl true]=some (.int 1):=rfl
  have m0:∀ x,fF (.lst false [x]) (.int 1)=some (.lst false [x]):=fun x=>rfl
  have a1:bL (bU l e) (.lst false [.tup [sD s',.int c']])=some (bU (l++[e]) (iy d,s',c')):=by
   unfold bU
   simp only [bL]
   rw [if_pos (by simp;omega)]
   simp [bO]
  dsimp only [v14,vL,vI,vD,vO]
  generalize fsE l e []=fs at *
  generalize fsE (l++[e]) (iy d,s',c') []=fs2 at *
  generalize bU l e=rr at *
  generalize bU (l++[e]) (iy d,s',c')=rr2 at *
  generalize bO e=re at *
  generalize jG e.2.1 e.2.2 d=due at *
  generalize D.lst fz (ns.map .int)=S at *
  unfold qX
  clear hT ok q ex he hlen lb he'
  walk_at "run"
theorem F5 {fz:Bool} {ns:List Int} (hT:T (.ex Cr)=.ok (.str fA)) {a8 a9 a10 a11 a12 a13:Option Sl} {Tw:TF} {F1:List D->R D} {M1 M2 M3 M4 M5:MF}:∀ (m k:Nat) (l:List En) (e:En) (x4 x5 x6 x7:Option Sl),(∀ x∈l,WF x)->WF e->l.length+m<800->
  ∃ l' e' r y4 y5 y6 y7,(∀ x∈l',WF x)/\WF e'/\l'.length<=l.length+m/\l'++[e']=l++[e]++r/\
   dF (jM 4) (qX ae Tw (fM Cs Co Cr T) M1 M2 M3 M4 M5 T F1 dw bx) ((List.range' k m).map fun (i:Nat)=>D.int (i:Int)) (v14 (vL fz ns) (vD b) (vO ae p (fsE l e [])) (vD (bU l e)) x4 x5 x6 x7 a8 a9 a10 a11 a12 a13)
    = .nx (v14 (vL fz ns) (vD b) (vO ae p (fsE l' e' [])) (vD (bU l' e')) y4 y5 y6 y7 a8 a9 a10 a11 a12 a13)
 | 0,k,l,e,x4,x5,x6,x7,ha,he,_=>⟨l,e,[],x4,x5,x6,x7,ha,he,by omega,by simp,rfl⟩
 | m+1,k,l,e,x4,x5,x6,x7,ha,he,hlen=>by
  obtain ⟨l1,e1,r1,y5,y6,y7,g1,g0,g2,g3,hB⟩:=Hg (ae:=ae) (Cs:=Cs) (Co:=Co) (Cr:=Cr) (p:=p) (b:=b) (fz:=fz) (ns:=ns) hT l e he (by omega) k x5 x6 x7 a8 a9 a10 a11 a12 a13 (Tw:=Tw) (F1:=F1) (M1:=M1) (M2:=M2) (M3:=M3) (M4:=M4) (M5:=M5)
  have ha1:∀ x∈l1,WF x:=fun x hx=>by
   rcases g0 with z|z
   ·rw [z] at hx;exact ha x hx
   ·rw [z] at hx;rcases List.mem_append.1 hx with hx|hx;exact ha x hx;rw [List.mem_singleton] at hx;rw [hx];exact he
  obtain ⟨l2,e2,r2,z4,z5,z6,z7,h0,h1,h2,h3,ih⟩:=F5 (fz:=fz) (ns:=ns) hT m (k+1) l1 e1 (vI k) y5 y6 y7 ha1 g1 (by omega) (Tw:=Tw) (F1:=F1) (M1:=M1) (M2:=M2) (M3:=M3) (M4:=M4) (M5:=M5)
  refine ⟨l2,e2,r1++r2,z4,z5,z6,z7,h0,h1,by omega,by rw [h3,g3];simp,?_⟩
  rw [List.range'_succ,List.map_cons,lN (Z1:=v14 (vL fz ns) (vD b) (vO ae p (fsE l e [])) (vD (bU l e)) (vI k) x5 x6 x7 a8 a9 a10 a11 a12 a13) rfl hB,ih]
end
section
variable {ae Cs Co Cr Cb p:Addr} {T:R D->R D} {b:D}
theorem Et {g:Ev->O} {s1:Ev->O} {Z':Ev} (h:g Z=.re d Z') (hb:gb Z'=.ok d) (hc:cl 10 d=true):zG (xE neF g gb) s1 oNx Z=.nx Z':=by
 unfold zG xE
 rw [h]
 show ((gb Z').out _ _).thenX _=_
 rw [hb]
 show ((ofO (neF d d)).out _ _).thenX _=_
 rw [gh hc];rfl
theorem HN {ns:List Int} (hT:T (.ex Cr)=.ok (.str fA)) (l:List En) (e:En) (he:WF e) (hlen:l.length<800) (k n:Nat) (a2 a3 x5 a6 x7 a8 a9:Option Sl) {Tw:TF} {M1 M2 M3 M4 M5:MF} :
  ∃ l' e' r y5 y7,WF e'/\l'.length<=l.length+1/\l'++[e']=l++[e]++r/\
   nZ ae Tw (fM Cs Co Cr T) M1 M2 M3 M4 M5 T F1 dw bx (v14 (vL fz ns) (vD b) a2 a3 (vI k) x5 a6 x7 a8 a9 (vO ae p (fsE l e [])) (vI n) (vD (bO e)) (vI l.length))
    = .nx (v14 (vL fz ns) (vD b) a2 a3 (vI k) y5 a6 y7 a8 a9 (vO ae p (fsE l' e' [])) (vI n) (vD (bO e')) (vI l'.length)):=by
 obtain ⟨d,ok,hd⟩:=xU (fz:=fz) (ns:=ns) (a:=n+10 * k) he.gs he.w he.m
 have hb:bx [bO e,ddD d]=_:=sk (c:=e.2.2) he.gs ok
 have m10:fF (.int 10) (.int (k:Int))=some (.int (10 * (k:Int))):=by simp only [fF];rfl
 have k0:(n:Int)+10 * (k:Int)=((n+10 * k:Nat):Int):=by omega
 have ix0:ixD (bO e) (.int 0)=some (sD e.2.1):=rfl
 have as:∀ (v w:D) (a0 a1 a2 a3 a4 a5 a6 a7 a8 a9 a10 a11 a12 a13:Option Sl),zD [12,7] (.tup [v,w]) [a0,a1,a2,a3,a4,a5,a6,a7,a8,a9,a10,a11,a12,a13]=.ok [a0,a1,a2,a3,a4,a5,a6,vD w,a8,a9,a10,a11,vD v,a13]:=fun _ _ _ _ _ _ _ _ _ _ _ _ _ _ _ _=>rfl
 have dc:=E7 e.2.1 e.2.2 d
 have hi:∀ (fs fs':List (Nat×Fd)) (a0 a1 a2 a3 a4 a6 a8 a9 a11 a12 a13:Option Sl),fM Cs Co Cr T fs [ddD d]=.ok (jG e.2.1 e.2.2 d) fs'->zG (xE neF (dR ae 10 1 (fM Cs Co Cr T) (aa (rvz 5) nlz)) (rvz 7)) (aJ (cg (fun _=>R.ok (D.bl false))) oNx) oNx [a0,a1,a2,a3,a4,vD (ddD d),a6,vD (jG e.2.1 e.2.2 d),a8,a9,vO ae p fs,a11,a12,a13]=.nx [a0,a1,a2,a3,a4,vD (ddD d),a6,vD (jG e.2.1 e.2.2 d),a8,a9,vO ae p fs',a11,a12,a13]:=fun fs fs' a0 a1 a2 a3 a4 a6 a8 a9 a11 a12 a13 h=>by
  have e1:dR ae 10 1 (fM Cs Co Cr T) (aa (rvz 5) nlz) [a0,a1,a2,a3,a4,vD (ddD d),a6,vD (jG e.2.1 e.2.2 d),a8,a9,vO ae p fs,a11,a12,a13]=.re (jG e.2.1 e.2.2 d) [a0,a1,a2,a3,a4,vD (ddD d),a6,vD (jG e.2.1 e.2.2 d),a8,a9,vO ae p fs',a11,a12,a13]:=vw rfl rfl rfl h
  exact Et e1 rfl dc
 rcases EA (Cs:=Cs) (Co:=Co) (Cr:=Cr) hT l e [] he d ok (by omega) with ⟨q,ed,hx⟩|⟨s',c',q,he',nn,hx⟩
 ·rw [q] at hb
  dsimp only [Option.getD_none] at hb
  have hx:=fun a0 a1 a2 a3 a4 a6 a8 a9 a11 a12 a13=>hi _ _ a0 a1 a2 a3 a4 a6 a8 a9 a11 a12 a13 hx
  rw [ed] at hb hx
  refine ⟨l,e,[],vD (ddD d),vD (.str fA),he,by omega,by simp,?_⟩
  have nn:neF (.str fA) (.str [110,111,32,114,111,111,109])=some (.bl false):=rfl
  have i0:fK [.bl false]=some (.int 0):=rfl
  have z0:(l.length:Int)+0=(l.length:Int):=by omega
  have er:D.tup [sD e.2.1,.int e.2.2]=bO e:=rfl
  rw [er] at hb
  dsimp only [v14,vL,vI,vD,vO]
  generalize fsE l e []=fs at *
  generalize bO e=re at *
  generalize D.lst fz (ns.map .int)=S at *
  unfold nZ
  clear hT ok q ed hi er he hlen dc
  walk_at "run"
 ·rw [q] at hb
  dsimp only [Option.getD_some] at hb
  have hx:=fun a0 a1 a2 a3 a4 a6 a8 a9 a11 a12 a13=>hi _ _ a0 a1 a2 a3 a4 a6 a8 a9 a11 a12 a13 hx
  refine ⟨l++[e],(iy d,s',c'),[(iy d,s',c')],vD (ddD d),vD (jG e.2.1 e.2.2 d),he',by simp,rfl,?_⟩
  have i0:fK [.bl true]=some (.int 1):=rfl
  have z0:(((l++[e]).length:Nat):Int)=(l.length:Int)+1:=by simp
  have er:bO (iy d,s',c')=D.tup [sD s',.int c']:=rfl
  dsimp only [v14,vL,vI,vD,vO]
  rw [z0,er]
  generalize fsE l e []=fs at *
  generalize fsE (l++[e]) (iy d,s',c') []=fs2 at *
  generalize bO e=re at *
  generalize jG e.2.1 e.2.2 d=due at *
  generalize D.lst fz (ns.map .int)=S at *
  unfold nZ
  clear hT ok q hi he hlen he' dc z0 er
  walk_at "run"
theorem E3 {fz:Bool} {ns:List Int} (hT:T (.ex Cr)=.ok (.str fA)) {n:Nat} {a2 a3 a6 a8 a9:Option Sl} {Tw:TF} {F1:List D->R D} {M1 M2 M3 M4 M5:MF}:∀ (m k:Nat) (l:List En) (e:En) (x4 x5 x7:Option Sl),WF e->l.length+m<800->
  ∃ l' e' r y4 y5 y7,WF e'/\l'.length<=l.length+m/\l'++[e']=l++[e]++r/\
   dF (jM 4) (nZ ae Tw (fM Cs Co Cr T) M1 M2 M3 M4 M5 T F1 dw bx) ((List.range' k m).map fun (i:Nat)=>D.int (i:Int)) (v14 (vL fz ns) (vD b) a2 a3 x4 x5 a6 x7 a8 a9 (vO ae p (fsE l e [])) (vI n) (vD (bO e)) (vI l.length))
    = .nx (v14 (vL fz ns) (vD b) a2 a3 y4 y5 a6 y7 a8 a9 (vO ae p (fsE l' e' [])) (vI n) (vD (bO e')) (vI l'.length))
 | 0,k,l,e,x4,x5,x7,he,_=>⟨l,e,[],x4,x5,x7,he,by omega,by simp,rfl⟩
 | m+1,k,l,e,x4,x5,x7,he,hlen=>by
  obtain ⟨l1,e1,r1,y5,y7,g1,g2,g3,hB⟩:=HN (ae:=ae) (Cs:=Cs) (Co:=Co) (Cr:=Cr) (p:=p) (b:=b) (fz:=fz) (ns:=ns) hT l e he (by omega) k n a2 a3 x5 a6 x7 a8 a9 (Tw:=Tw) (F1:=F1) (M1:=M1) (M2:=M2) (M3:=M3) (M4:=M4) (M5:=M5)
  obtain ⟨l2,e2,r2,z4,z5,z7,h1,h2,h3,ih⟩:=E3 (fz:=fz) (ns:=ns) hT m (k+1) l1 e1 (vI k) y5 y7 g1 (by omega) (Tw:=Tw) (F1:=F1) (M1:=M1) (M2:=M2) (M3:=M3) (M4:=M4) (M5:=M5)
  refine ⟨l2,e2,r1++r2,z4,z5,z7,h1,by omega,by rw [h3,g3];simp,?_⟩
  rw [List.range'_succ,List.map_cons,lN (Z1:=v14 (vL fz ns) (vD b) a2 a3 (vI k) x5 a6 x7 a8 a9 (vO ae p (fsE l e [])) (vI n) (vD (bO e)) (vI l.length)) rfl hB,ih]
end
section
variable {ae Cs Co Cr Cb p:Addr} {T:R D->R D}
theorem Cl {M:MF} {fs:List (Nat×Fd)} {E:Addr} (a0 a1 a2 a3 a4 a5 a6 a7 a8 a9 a11 a12 a13:Option Sl) (h:M fs []=.ex E) (hT:T (.ex E)=.ok d):pv T C 10 [] (dR C 0 0 M nlz) (v14 a0 a1 a2 a3 a4 a5 a6 a7 a8 a9 (vO C p fs) a11 a12 a13)=.re d (v14 a0 a1 a2 a3 a4 a5 a6 a7 a8 a9 (vO C p fs) a11 a12 a13):=by
 have o:jZ C (v14 a0 a1 a2 a3 a4 a5 a6 a7 a8 a9 (vO C p fs) a11 a12 a13) 10=.ok (p,fs):=da rfl
 unfold pv
 rw [o,R.ok_out]
 have m1:dR C 0 0 M nlz [some (.obj false C p fs)]=.ex E [some (.obj false C p fs)]:=by
  unfold dR DW
  dsimp only [List.getElem?_cons_zero]
  rw [if_pos rfl,R.ok_out,R.ok_out]
  dsimp only
  rw [if_pos (show ([]:List D).length=0 from rfl),h];rfl
 show (match dR C 0 0 M nlz [some (.obj false C p fs)] with
  | .re d _=>(T (.ok d)).out _ _
  | .ex E _=>(T (.ex E)).out _ _
  | _=>ka C p 10 _ (dR C 0 0 M nlz [vO C p fs]))=_
 rw [m1]
 show (T (.ex E)).out _ _=_
 rw [hT];rfl
theorem HZ {g1:Ev->R Bool} {g2:Ev->O} {s1:Ev->O} {Z':Ev} (h1:g1 Z=.ok false) (h:g2 Z=.re d Z') (hb:gb Z'=.ok d) (hc:cl 10 d=true):zG (xOr (Bx g1) (xE neF g2 gb)) s1 oNx Z=.nx Z':=by
 unfold zG xOr Bx xE
 rw [h1]
 show ((((g2 Z).thenX _)).thenX _)=_
 rw [h]
 show ((((gb Z').out _ _)).thenX _)=_
 rw [hb]
 show ((((ofO (neF d d)).out _ _)).thenX _)=_
 rw [gh hc];rfl
theorem Bk {ns:List Int} (hT1:T (.ex Cr)=.ok (.str fA)) (hT2:T (.ex Cb)=.ok (.str Ck)) (l:List En) (e:En) (he:WF e) (hlen:l.length<100) (hd:En) (tl:List En) (ht:l++[e]=hd::tl) (fs:List (Nat×Fd)) (hfs:(l=[]/\fs=fsE [] e [])\/∃ l0 e0,l=l0++[e0]/\fs=fsE l0 e0 [e])
 (n:Nat) (a2 x4 x5 a6 x7 a9 x12 x13:Option Sl) {Tw:TF} {M5:MF} :
  ∃ y4 y5 y7 fs' y12 y13,
   nq ae Tw (fM Cs Co Cr T) dz (cO Cb) bz (bR Cb) M5 T F1 dw bx (v14 (vL fz ns) (vD (bO hd)) a2 (vD (bU l e)) x4 x5 a6 x7 (vI l.length) a9 (vO ae p fs) (vI n) x12 x13)
    = .nx (v14 (vL fz ns) (vD (bO hd)) a2 (vD (bU l e)) y4 y5 a6 y7 (vI l.length) a9 (vO ae p fs') (vI n) y12 y13):=by
 have rl:=qE l e
 generalize bU l e=rr at *
 have q1:oIf (gB2 gtD (rvz 8) (ciz 0)) (aJ (fW ae 10 (bR Cb)) oNx) oNx (v14 (vL fz ns) (vD (bO hd)) a2 (vD rr) x4 x5 a6 x7 (vI l.length) a9 (vO ae p fs) (vI n) x12 x13)=.nx (v14 (vL fz ns) (vD (bO hd)) a2 (vD rr) x4 x5 a6 x7 (vI l.length) a9 (vO ae p (fsE l e [])) (vI n) x12 x13):=by
  have t:gB2 gtD (rvz 8) (ciz 0) (v14 (vL fz ns) (vD (bO hd)) a2 (vD rr) x4 x5 a6 x7 (vI l.length) a9 (vO ae p fs) (vI n) x12 x13)=.ok (decide ((0:Int)<(l.length:Int))):=rfl
  unfold oIf
  rw [t,R.ok_out]
  rcases hfs with ⟨rfl,rfl⟩|⟨l0,e0,rfl,rfl⟩
  ·rw [decide_eq_false (by simp)];rfl
  ·rw [decide_eq_true (by simp)]
   have m:=zl (Cb:=Cb) l0 e0 e [] (by simp at hlen;omega)
   exact congrArg (fun o:O=>o.seq oNx) (kR (p:=p) rfl m)
 clear hfs
 have q2:∀ (f:List (Nat×Fd)),Gw 12 13 (aa (g2 ixD (rvz 3) (aS uZ (ciz 1))) (aa (rvz 8) nlz)) (v14 (vL fz ns) (vD (bO hd)) a2 (vD rr) x4 x5 a6 x7 (vI l.length) a9 (vO ae p f) (vI n) x12 x13)=.nx (v14 (vL fz ns) (vD (bO hd)) a2 (vD rr) x4 x5 a6 x7 (vI l.length) a9 (vO ae p f) (vI n) (vD (bO e)) (vI l.length)):=fun f=>by
  have ng:uZ (.int 1)=.ok (.int (-1)):=rfl
  dsimp only [v14,vL,vI,vD,vO]
  generalize bO hd=rh at *
  generalize bO e=re at *
  generalize D.lst fz (ns.map .int)=S at *
  clear q1 ht
  walk_at "run"
 have q3:∀ (mm:Nat) (y4 y5 y7:Option Sl) (l:List En) (e:En) (post:List En) (x13:Option Sl),oIf (gB2 neF (hV ae 10 0 dz nlz) (rvz 12)) (aJ (cg (fun _=>R.ok (D.bl false))) oNx) oNx (v14 (vL fz ns) (vD (bO hd)) a2 (vD rr) y4 y5 a6 y7 (vI mm) a9 (vO ae p (fsE l e post)) (vI n) (vD (bO e)) x13)=.nx (v14 (vL fz ns) (vD (bO hd)) a2 (vD rr) y4 y5 a6 y7 (vI mm) a9 (vO ae p (fsE l e post)) (vI n) (vD (bO e)) x13):=fun mm y4 y5 y7 l e post x13=>by
  have s1:=uJ l e post
  have n1:neF (bO e) (bO e)=some (.bl false):=gh (uH e)
  have o2:∀ a0 a1 a2 a3 a4 a5 a6 a7 a8 a9 a11 a12 a13 fs,iH ae [a0,a1,a2,a3,a4,a5,a6,a7,a8,a9,vO ae p fs,a11,a12,a13] 10=.ok fs:=fun _ _ _ _ _ _ _ _ _ _ _ _ _ _=>bZ rfl
  dsimp only [v14,vL,vI,vD,vO]
  generalize fsE l e post=fs at *
  generalize bO hd=rh at *
  generalize bO e=re at *
  generalize D.lst fz (ns.map .int)=S at *
  clear q1 q2 ht rl
  walk_at "run"
 obtain ⟨l',e',r,y4,y5,y7,he',hl',hr,lp⟩:=E3 (ae:=ae) (Cs:=Cs) (Co:=Co) (Cr:=Cr) (p:=p) (b:=bO hd) (fz:=fz) (ns:=ns) hT1 (n:=n) (a2:=a2) (a3:=vD rr) (a6:=a6) (a8:=vI l.length) (a9:=a9) (Tw:=Tw) (F1:=F1) (M1:=dz) (M2:=cO Cb) (M3:=bz) (M4:=bR Cb) (M5:=M5) 4 0 l e x4 x5 x7 he (by omega)
 have hr':l'++[e']=hd::(tl++r):=by rw [hr,ht];rfl
 have rg4:bp [.int 4]=.ok ((List.range' 0 4).map fun (i:Nat)=>D.int (i:Int)):=gR (n:=4) (by decide)
 have rgl:bp [.int (l'.length:Int)]=.ok ((List.range' 0 l'.length).map fun (i:Nat)=>D.int (i:Int)):=by rw [<- List.range_eq_range'];exact gR (n:=l'.length) (by omega)
 have gi13:∀ (y4 y10 y5 y7:Option Sl),aS bp (aa (rvz 13) nlz) (v14 (vL fz ns) (vD (bO hd)) a2 (vD rr) y4 y5 a6 y7 (vI l.length) a9 y10 (vI n) (vD (bO e')) (vI l'.length))=.ok ((List.range' 0 l'.length).map fun (i:Nat)=>D.int (i:Int)):=fun y4 y10 y5 y7=>by
  dsimp only [v14,vL,vI,vD,vO]
  generalize (List.range' 0 l'.length).map (fun (i:Nat)=>D.int (i:Int))=it at *
  generalize bO hd=rh at *
  generalize bO e'=re at *
  generalize D.lst fz (ns.map .int)=S at *
  clear q1 q2 q3 ht rl lp rg4 hr' hr hl'
  walk_at "run"
 have q4:sv (jM 4) (aS bp (aa (ciz 4) nlz)) (nZ ae Tw (fM Cs Co Cr T) dz (cO Cb) bz (bR Cb) M5 T F1 dw bx) (v14 (vL fz ns) (vD (bO hd)) a2 (vD rr) x4 x5 a6 x7 (vI l.length) a9 (vO ae p (fsE l e [])) (vI n) (vD (bO e)) (vI l.length))=.nx (v14 (vL fz ns) (vD (bO hd)) a2 (vD rr) y4 y5 a6 y7 (vI l.length) a9 (vO ae p (fsE l' e' [])) (vI n) (vD (bO e')) (vI l'.length)):=by
  show ((bp [.int 4]).out _ _)=_
  rw [rg4];exact lp
 obtain ⟨z4,bk⟩:=FM (ae:=ae) (Cb:=Cb) (p:=p) (a0:=vL fz ns) (a1:=vD (bO hd)) (a2:=a2) (a3:=vD rr) (a5:=y5) (a6:=a6) (a7:=y7) (a8:=vI l.length) (a9:=a9) (a11:=vI n) (a12:=(vD (bO e'))) (a13:=(vI l'.length)) (g:=xu ae Tw (fM Cs Co Cr T) dz (cO Cb) bz (bR Cb) M5 T F1 dw bx) (fun _=>rfl) l'.length 0 l' e' [] y4 hd (tl++r) rfl hr' (by simp;omega)
 have q5:sv (jM 4) (aS bp (aa (rvz 13) nlz)) (xu ae Tw (fM Cs Co Cr T) dz (cO Cb) bz (bR Cb) M5 T F1 dw bx) (v14 (vL fz ns) (vD (bO hd)) a2 (vD rr) y4 y5 a6 y7 (vI l.length) a9 (vO ae p (fsE l' e' [])) (vI n) (vD (bO e')) (vI l'.length))=.nx (v14 (vL fz ns) (vD (bO hd)) a2 (vD rr) z4 y5 a6 y7 (vI l.length) a9 (vO ae p (fsE [] hd (tl++r))) (vI n) (vD (bO e')) (vI l'.length)):=by
  have gi:=gi13 y4 (vO ae p (fsE l' e' [])) y5 y7
  unfold sv
  rw [gi];exact bk
 have q6:zG (xOr (Bx (gB2 neF (hV ae 10 0 dz nlz) (rvz 1))) (xE neF (pv T ae 10 [] (dR ae 0 0 (cO Cb) nlz)) (csz [110,111,32,98,97,99,107]))) (aJ (cg (fun _=>R.ok (D.bl false))) oNx) oNx (v14 (vL fz ns) (vD (bO hd)) a2 (vD rr) z4 y5 a6 y7 (vI l.length) a9 (vO ae p (fsE [] hd (tl++r))) (vI n) (vD (bO e')) (vI l'.length))=.nx (v14 (vL fz ns) (vD (bO hd)) a2 (vD rr) z4 y5 a6 y7 (vI l.length) a9 (vO ae p (fsE [] hd (tl++r))) (vI n) (vD (bO e')) (vI l'.length)):=by
  have m:cO Cb (fsE [] hd (tl++r)) []=.ex Cb:=B4
  refine HZ ?_ (Cl _ _ _ _ _ _ _ _ _ _ _ _ _ m hT2) rfl rfl
  have s1:=uJ [] hd (tl++r)
  have n1:neF (bO hd) (bO hd)=some (.bl false):=gh (uH hd)
  have o2:∀ a0 a1 a2 a3 a4 a5 a6 a7 a8 a9 a11 a12 a13 fs,iH ae [a0,a1,a2,a3,a4,a5,a6,a7,a8,a9,vO ae p fs,a11,a12,a13] 10=.ok fs:=fun _ _ _ _ _ _ _ _ _ _ _ _ _ _=>bZ rfl
  dsimp only [v14,vL,vI,vD,vO]
  generalize fsE [] hd (tl++r)=fs at *
  generalize bO hd=rh at *
  generalize bO e'=re at *
  generalize D.lst fz (ns.map .int)=S at *
  clear q1 q2 q3 q4 q5 ht rl lp bk rg4 rgl hr' hr m
  walk_at "run"
 obtain ⟨w4,fo⟩:=A8 (ae:=ae) (Cb:=Cb) (p:=p) (a0:=vL fz ns) (a1:=vD (bO hd)) (a2:=a2) (a3:=vD rr) (a5:=y5) (a6:=a6) (a7:=y7) (a8:=vI l.length) (a9:=a9) (a11:=vI n) (a12:=(vD (bO e'))) (a13:=(vI l'.length)) (g:=yi ae Tw (fM Cs Co Cr T) dz (cO Cb) bz (bR Cb) M5 T F1 dw bx) (fun _=>rfl) l'.length 0 [] hd (tl++r) z4 l' e' (by have:=congrArg List.length hr';simp at this ⊢;omega) hr'.symm (by have:=congrArg List.length hr';simp at this ⊢;omega)
 have q7:sv (jM 4) (aS bp (aa (rvz 13) nlz)) (yi ae Tw (fM Cs Co Cr T) dz (cO Cb) bz (bR Cb) M5 T F1 dw bx) (v14 (vL fz ns) (vD (bO hd)) a2 (vD rr) z4 y5 a6 y7 (vI l.length) a9 (vO ae p (fsE [] hd (tl++r))) (vI n) (vD (bO e')) (vI l'.length))=.nx (v14 (vL fz ns) (vD (bO hd)) a2 (vD rr) w4 y5 a6 y7 (vI l.length) a9 (vO ae p (fsE l' e' [])) (vI n) (vD (bO e')) (vI l'.length)):=by
  have gi:=gi13 z4 (vO ae p (fsE [] hd (tl++r))) y5 y7
  unfold sv
  rw [gi];exact fo
 have q8:oIf (su (gB2 neF (hV ae 10 0 dz nlz) (rvz 12)) (gB2 neF (cP ae 10 bz) (aS mkT (aa (rvz 13) (aa (ciz 0) nlz))))) (aJ (cg (fun _=>R.ok (D.bl false))) oNx) oNx (v14 (vL fz ns) (vD (bO hd)) a2 (vD rr) w4 y5 a6 y7 (vI l.length) a9 (vO ae p (fsE l' e' [])) (vI n) (vD (bO e')) (vI l'.length))=.nx (v14 (vL fz ns) (vD (bO hd)) a2 (vD rr) w4 y5 a6 y7 (vI l.length) a9 (vO ae p (fsE l' e' [])) (vI n) (vD (bO e')) (vI l'.length)):=by
  have s1:=uJ l' e' []
  have s2:bz (fsE l' e' []) []=.rd (.tup [.int (l'.length:Int),.int 0]):=vp l' e' []
  have n1:neF (bO e') (bO e')=some (.bl false):=gh (uH e')
  have n2:neF (.tup [.int (l'.length:Int),.int 0]) (.tup [.int (l'.length:Int),.int 0])=some (.bl false):=gh rfl
  have mk2:∀ x y,mkT [x,y]=.ok (.tup [x,y]):=fun _ _=>rfl
  have o2:∀ a0 a1 a2 a3 a4 a5 a6 a7 a8 a9 a11 a12 a13 fs,iH ae [a0,a1,a2,a3,a4,a5,a6,a7,a8,a9,vO ae p fs,a11,a12,a13] 10=.ok fs:=fun _ _ _ _ _ _ _ _ _ _ _ _ _ _=>bZ rfl
  dsimp only [v14,vL,vI,vD,vO]
  generalize fsE l' e' []=fs at *
  generalize bO hd=rh at *
  generalize bO e'=re at *
  generalize (l'.length:Int)=nn at *
  generalize D.lst fz (ns.map .int)=S at *
  clear q1 q2 q3 q4 q5 q6 q7 ht rl lp bk fo rg4 rgl hr' hr hl'
  walk_at "run"
 refine ⟨w4,y5,y7,fsE l' e' [],(vD (bO e')),(vI l'.length),?_⟩
 unfold nq
 rw [jT,q1,rj,jT,q2,rj,jT,q3,rj,jT,q4,rj,jT,q5,rj,jT,q6,rj,jT,q7,rj,jT,q8,rj]
 rfl
end
theorem HV (hrs:ak∈rs) (hrb:ah∈rs) (nd:[af,ar,ak,aq,aI,aQ,aP,ah].Nodup) (ns:List Int) (fz:Bool) (q:Addr×Addr×Unit) :
  aK (mK ae (ff af) (fM af ar ak (bF (vQ ar aq ah ak aQ aI af aP rs) rs)) dz (cO ah) bz (bR ah) (eX af) (bF (vQ ar aq ah ak aQ aI af aP rs) rs) eF dw bx q [vL fz ns,none,none,none,none,none,none,none,none,none,none,none,none,none])=.ok (.bl true):=by
 have hT:bF (vQ ar aq ah ak aQ aI af aP rs) rs (.ex ak)=.ok (.str fA):=Bs hrs (wy nd hrs)
 have hT2:bF (vQ ar aq ah ak aQ aI af aP rs) rs (.ex ah)=.ok (.str Ck):=Bs hrb (wq nd hrb)
 generalize bF (vQ ar aq ah ak aQ aI af aP rs) rs=T at *
 clear nd hrs hrb
 obtain ⟨s0,h0,e0,e1,e2⟩:=D4 ns 10
 obtain ⟨w1,w2,_⟩:=pO ns 10
 obtain ⟨m1,m2,_⟩:=pU ns 10
 have he0:WF (.str iq,s0,0):=⟨h0,by show s0.1<=8;omega,by show s0.2.1.length<=4;omega⟩
 have sm:eF [.lst fz (ns.map .int),.int 10]=.ok (sD s0):=by rw [<- e0];exact rX (a:=10)
 have nw:=yx (Cs:=af) h0
 have mk2:∀ x y,mkT [x,y]=.ok (.tup [x,y]):=fun _ _=>rfl
 have s1:vC ae (ff af) (fM af ar ak T) dz (cO ah) bz (bR ah) (eX af) T eF dw bx [vL fz ns,none,none,none,none,none,none,none,none,none,none,none,none,none]=.nx [vL fz ns,vD (.tup [sD s0,.int 0]),none,none,none,none,none,none,none,none,none,none,none,none]:=by
  dsimp only [vC,vL,vD]
  generalize D.lst fz (ns.map .int)=S at *
  walk_at "run"
 obtain ⟨l,e,r,y4,y5,y6,y7,ha,he,hl,hr,lp⟩:=F5 (ae:=ae) (Cs:=af) (Co:=ar) (Cr:=ak) (p:=q.1) (b:=.tup [sD s0,.int 0]) (fz:=fz) (ns:=ns) hT (a8:=none) (a9:=none) (a10:=none) (a11:=none) (a12:=none) (a13:=none) (Tw:=ff af) (F1:=eF) (M1:=dz) (M2:=cO ah) (M3:=bz) (M4:=bR ah) (M5:=eX af) 10 0 [] (.str iq,s0,0) none none none none (by simp) he0 (by decide)
 have hr:l++[e]=(.str iq,s0,0)::r:=hr
 have hl:l.length<=10:=by simpa using hl
 have rg:bp [.int 10]=.ok ((List.range' 0 10).map fun (i:Nat)=>D.int (i:Int)):=gR (n:=10) (by decide)
 have s3:qC ae (ff af) (fM af ar ak T) dz (cO ah) bz (bR ah) (eX af) T eF dw bx (v14 (vL fz ns) (vD (.tup [sD s0,.int 0])) (vO ae q.1 (fsE [] (.str iq,s0,0) [])) (vD (bU [] (.str iq,s0,0))) none none none none none none none none none none)=.nx (v14 (vL fz ns) (vD (.tup [sD s0,.int 0])) (vO ae q.1 (fsE l e [])) (vD (bU l e)) y4 y5 y6 y7 none none none none none none):=by
  unfold qC
  show ((bp [.int 10]).out _ _)=_
  rw [rg];exact lp
 have s4:uT ae (ff af) (fM af ar ak T) dz (cO ah) bz (bR ah) (eX af) T eF dw bx (v14 (vL fz ns) (vD (.tup [sD s0,.int 0])) (vO ae q.1 (fsE l e [])) (vD (bU l e)) y4 y5 y6 y7 none none none none none none)=.nx (v14 (vL fz ns) (vD (.tup [sD s0,.int 0])) (vO ae q.1 (fsE l e [])) (vD (bU l e)) y4 y5 y6 y7 (vI l.length) none none none none none):=by
  have ln:eZ [bU l e]=some (.int ((l.length:Int)+1)):=by
   show some (D.int ((((l++[e]).map bO).length:Nat):Int))=_
   congr 2;simp
  have z:(l.length:Int)+1 - 1=(l.length:Int):=by omega
  dsimp only [uT,v14,vL,vI,vD,vO]
  generalize fsE l e []=fs at *
  generalize bU l e=rr at *
  generalize D.lst fz (ns.map .int)=S at *
  clear s1 s3 lp sm nw rg
  walk_at "run"
 have s5:∃ l1 e1 post,l1++e1::post=l++[e]/\((l=[]/\fsE l1 e1 post=fsE [] e [])\/∃ l0 e0,l=l0++[e0]/\fsE l1 e1 post=fsE l0 e0 [e])/\
   vi ae (ff af) (fM af ar ak T) dz (cO ah) bz (bR ah) (eX af) T eF dw bx (v14 (vL fz ns) (vD (.tup [sD s0,.int 0])) (vO ae q.1 (fsE l e [])) (vD (bU l e)) y4 y5 y6 y7 (vI l.length) none none none none none)=.nx (v14 (vL fz ns) (vD (.tup [sD s0,.int 0])) (vO ae q.1 (fsE l1 e1 post)) (vD (bU l e)) y4 y5 y6 y7 (vI l.length) none none none none none):=by
  have t:gB2 gtD (rvz 8) (ciz 0) (v14 (vL fz ns) (vD (.tup [sD s0,.int 0])) (vO ae q.1 (fsE l e [])) (vD (bU l e)) y4 y5 y6 y7 (vI l.length) none none none none none)=.ok (decide ((0:Int)<(l.length:Int))):=rfl
  unfold vi oIf
  rw [t,R.ok_out]
  rcases List.eq_nil_or_concat l with rfl|⟨l0,e0,hl0⟩
  ·exact ⟨[],e,[],rfl,.inl ⟨rfl,rfl⟩,by rw [decide_eq_false (by simp)];rfl⟩
  ·rw [List.concat_eq_append] at hl0
   subst hl0
   refine ⟨l0,e0,[e],by simp,.inr ⟨l0,e0,rfl,rfl⟩,?_⟩
   rw [decide_eq_true (by simp)]
   exact congrArg (fun o:O=>o.seq oNx) (kR (p:=q.1) rfl (A5 (Cb:=ah) l0 e0 e [] (by decide)))
 obtain ⟨l1,e1,post,hh,hfs,s5⟩:=s5
 have he1:WF e1:=by
  have:e1∈l++[e]:=by rw [<- hh];simp
  rcases List.mem_append.1 this with hx|hx
  ·exact ha e1 hx
  ·rw [List.mem_singleton] at hx;rw [hx];exact he
 have tw:ff af (fsE l1 e1 post)=some (fsE l1 e1 post):=DE he1.gs
 have s6:vh ae (ff af) (fM af ar ak T) dz (cO ah) bz (bR ah) (eX af) T eF dw bx (v14 (vL fz ns) (vD (.tup [sD s0,.int 0])) (vO ae q.1 (fsE l1 e1 post)) (vD (bU l e)) y4 y5 y6 y7 (vI l.length) (vO ae q.2.1 (fsE l1 e1 post)) none none none none)=.nx (v14 (vL fz ns) (vD (.tup [sD s0,.int 0])) (vO ae q.1 (fsE l1 e1 post)) (vD (bU l e)) y4 y5 y6 y7 (vI l.length) (vO ae q.2.1 (fsE l1 e1 post)) none none none none):=by
  have s1':=uJ l1 e1 post
  have s2':=vp l1 e1 post
  have n1:neF (bO e1) (bO e1)=some (.bl false):=gh (uH e1)
  have n2:neF (.tup [.int (l1.length:Int),.int (post.length:Int)]) (.tup [.int (l1.length:Int),.int (post.length:Int)])=some (.bl false):=gh rfl
  have o2:∀ a0 a1 a3 a4 a5 a6 a7 a8 a9 a10 a11 a12 a13 p fs,iH ae [a0,a1,vO ae p fs,a3,a4,a5,a6,a7,a8,a9,a10,a11,a12,a13] 2=.ok fs:=fun _ _ _ _ _ _ _ _ _ _ _ _ _ _ _=>bZ rfl
  have o9:∀ a0 a1 a2 a3 a4 a5 a6 a7 a8 a10 a11 a12 a13 p fs,iH ae [a0,a1,a2,a3,a4,a5,a6,a7,a8,vO ae p fs,a10,a11,a12,a13] 9=.ok fs:=fun _ _ _ _ _ _ _ _ _ _ _ _ _ _ _=>bZ rfl
  dsimp only [vh,v14,vL,vI,vD,vO]
  generalize fsE l1 e1 post=fs at *
  generalize bU l e=rr at *
  generalize bO e1=re at *
  generalize D.tup [.int (l1.length:Int),.int (post.length:Int)]=cc at *
  generalize D.lst fz (ns.map .int)=S at *
  clear s1 s3 s4 s5 lp sm nw rg tw hfs hh hr
  walk_at "run"
 have hb:bO (.str iq,s0,0)=.tup [sD s0,.int 0]:=rfl
 obtain ⟨u4,u5,u7,f1,u12,u13,b1⟩:=Bk (ae:=ae) (Cs:=af) (Co:=ar) (Cr:=ak) (Cb:=ah) (p:=q.1) (T:=T) (fz:=fz) (ns:=ns) hT hT2 l e he (by omega) _ r hr (fsE l1 e1 post) hfs 1000 none y4 y5 y6 y7 (vO ae q.2.1 (fsE l1 e1 post)) none none (Tw:=ff af) (F1:=eF) (M5:=eX af)
 obtain ⟨v4,v5,v7,f2,v12,v13,b2⟩:=Bk (ae:=ae) (Cs:=af) (Co:=ar) (Cr:=ak) (Cb:=ah) (p:=q.2.1) (T:=T) (fz:=fz) (ns:=ns) hT hT2 l e he (by omega) _ r hr (fsE l1 e1 post) hfs 2000 none u4 u5 y6 u7 none u12 u13 (Tw:=ff af) (F1:=eF) (M5:=eX af)
 have s11:pS ae (ff af) (fM af ar ak T) dz (cO ah) bz (bR ah) (eX af) T eF dw bx (v14 (vL fz ns) (vD (.tup [sD s0,.int 0])) (vO ae q.1 (fsE l1 e1 post)) (vD (bU l e)) y4 y5 y6 y7 (vI l.length) (vO ae q.2.1 (fsE l1 e1 post)) none none none none)=.nx (v14 (vL fz ns) (vD (.tup [sD s0,.int 0])) none (vD (bU l e)) v4 v5 y6 v7 (vI l.length) none (vO ae q.2.1 f2) (vD (.int 2000)) v12 v13):=by
  unfold pS C3
  rw [da (C:=ae) (p:=q.1) (fs:=fsE l1 e1 post) rfl,R.ok_out,da (C:=ae) (p:=q.2.1) (fs:=fsE l1 e1 post) rfl,R.ok_out]
  unfold El
  have m1:mvO ae 2 10 11 q.1 (.int 1000) (v14 (vL fz ns) (vD (.tup [sD s0,.int 0])) (vO ae q.1 (fsE l1 e1 post)) (vD (bU l e)) y4 y5 y6 y7 (vI l.length) (vO ae q.2.1 (fsE l1 e1 post)) none none none none)=some (v14 (vL fz ns) (vD (.tup [sD s0,.int 0])) none (vD (bU l e)) y4 y5 y6 y7 (vI l.length) (vO ae q.2.1 (fsE l1 e1 post)) (vO ae q.1 (fsE l1 e1 post)) (vD (.int 1000)) none none):=if_pos ⟨rfl,rfl⟩
  rw [m1]
  dsimp only
  rw [hb] at b1 b2
  have b1:nq ae (ff af) (fM af ar ak T) dz (cO ah) bz (bR ah) (eX af) T eF dw bx (v14 (vL fz ns) (vD (.tup [sD s0,.int 0])) none (vD (bU l e)) y4 y5 y6 y7 (vI l.length) (vO ae q.2.1 (fsE l1 e1 post)) (vO ae q.1 (fsE l1 e1 post)) (vD (.int 1000)) none none)=_:=b1
  rw [b1]
  dsimp only
  unfold Fj
  have m2:mvO ae 9 10 11 q.2.1 (.int 2000) (v14 (vL fz ns) (vD (.tup [sD s0,.int 0])) none (vD (bU l e)) u4 u5 y6 u7 (vI l.length) (vO ae q.2.1 (fsE l1 e1 post)) (vO ae q.1 f1) (vD (.int ((1000:Nat):Int))) u12 u13)=some (v14 (vL fz ns) (vD (.tup [sD s0,.int 0])) none (vD (bU l e)) u4 u5 y6 u7 (vI l.length) none (vO ae q.2.1 (fsE l1 e1 post)) (vD (.int 2000)) u12 u13):=if_pos ⟨rfl,rfl⟩
  rw [m2]
  dsimp only
  have b2:nq ae (ff af) (fM af ar ak T) dz (cO ah) bz (bR ah) (eX af) T eF dw bx (v14 (vL fz ns) (vD (.tup [sD s0,.int 0])) none (vD (bU l e)) u4 u5 y6 u7 (vI l.length) none (vO ae q.2.1 (fsE l1 e1 post)) (vD (.int 2000)) u12 u13)=_:=b2
  rw [b2];rfl
 have gl:(aa (g2 ixD (rvz 1) (ciz 0)) nlz) [vL fz ns,vD (.tup [sD s0,.int 0]),none,none,none,none,none,none,none,none,none,none,none,none]=.ok [sD s0]:=rfl
 have z1:(1:Nat)<=sizeLine:=by decide
 have gr:(cQ (sw (aa (rvz 1) nlz))) [vL fz ns,vD (.tup [sD s0,.int 0]),none,none,none,none,none,none,none,none,none,none,none,none]=.ok (.lst false [.tup [sD s0,.int 0]]):=by
  dsimp only [vL,vD]
  generalize D.lst fz (ns.map .int)=S at *
  generalize D.tup [sD s0,.int 0]=B at *
  clear lp s1 s3 s4 s5 s6 s11 b1 b2 sm nw gl rg mk2 tw hb
  walk_at "run"
 unfold mK vU xN vF CN
 rw [s1,rj,gl,gr,R.ok_bind,nw]
 show aK ((qC ae (ff af) (fM af ar ak T) dz (cO ah) bz (bR ah) (eX af) T eF dw bx (v14 (vL fz ns) (vD (.tup [sD s0,.int 0])) (vO ae q.1 (fsE [] (.str iq,s0,0) [])) (vD (bU [] (.str iq,s0,0))) none none none none none none none none none none)).seq _)=_
 rw [s3,rj,s4,rj,s5,rj,bZ (m:=true) (C:=ae) (p:=q.1) (fs:=fsE l1 e1 post) rfl,R.ok_out,tw]
 show aK (sP ae (ff af) (fM af ar ak T) dz (cO ah) bz (bR ah) (eX af) T eF dw bx (v14 (vL fz ns) (vD (.tup [sD s0,.int 0])) (vO ae q.1 (fsE l1 e1 post)) (vD (bU l e)) y4 y5 y6 y7 (vI l.length) (vO ae q.2.1 (fsE l1 e1 post)) none none none none))=_
 unfold sP
 rw [jT,s6,rj,jT,s11,rj]
 rfl
theorem Fp (nd:[af,ar,ak,aq,aI,aQ,aP,ah].Nodup) (ns:List Int) (fz:Bool) (q:Addr×Addr×Unit) :
  aK (mK ae (ff af) (fM af ar ak (bF (vQ ar aq ah ak aQ aI af aP [ah,aq,ar,ak,af]) [ah,aq,ar,ak,af])) dz (cO ah) bz (bR ah) (eX af) (bF (vQ ar aq ah ak aQ aI af aP [ah,aq,ar,ak,af]) [ah,aq,ar,ak,af]) eF dw bx q [vL fz ns,none,none,none,none,none,none,none,none,none,none,none,none,none])=.ok (.bl true):=
 HV (by simp) (by simp) nd ns fz q
end Q86
namespace Q
open PySem PySem.Spec PyProof.Rows L2
theorem qo (h:us.length=1):∃ a,us=[a]:=by
 match us,h with
 | [a],_=>exact ⟨a,rfl⟩
theorem uF (h:us.length=2):∃ a b,us=[a,b]:=by
 match us,h with
 | [a,b],_=>exact ⟨a,b,rfl⟩
theorem CI (h:us.length=3):∃ a b c,us=[a,b,c]:=by
 match us,h with
 | [a,b,c],_=>exact ⟨a,b,c,rfl⟩
theorem IL (h:us.length=4):∃ a b c d,us=[a,b,c,d]:=by
 match us,h with
 | [a,b,c,d],_=>exact ⟨a,b,c,d,rfl⟩
theorem F4 {K:PySem.W.Frag} {hp:Heap} {mg:Str->Option Value} {bm:List Value} {nid:String} (kin:K.In hp) (gl:hp.Ns mainGlobals mg) (e1:PySem.W.nsIn K mainGlobals x=some (some (.ref C))) (e2:PySem.W.excIn K C bm nid=true):OwnCls x C bm nid mg hp:=by
 constructor
 ·exact PySem.W.mg_of kin gl e1
 ·unfold PySem.W.excIn at e2
  split at e2
  ·rename_i dct kl sls look
   split at e2
   ·rename_i C0 more s0 s1 s2 s3 nw s5 hmro hsls
    simp only [Bool.and_eq_true,beq_iff_eq,Bool.not_eq_true'] at e2
    obtain ⟨⟨⟨⟨⟨eC,en⟩,edel⟩,etail⟩,ens⟩,einit⟩:=e2
    obtain ⟨f1,f2,f3,f4,f5,f6,f7,f8,f9,f10,f11⟩:=kl
    dsimp only at hmro edel ens einit
    have es:sls = #[s0,s1,s2,s3,some (.builtin nw),s5]:=by
     obtain ⟨ls⟩:=sls
     simp only at hsls
     rw [hsls]
    subst hmro edel es eC en
    exact ⟨more,f4,f1,f5,f2,f6,f7,f8,f9,f10,dct,s0,s1,s2,s3,s5,_,kin _ _ look,.of_isNs (PySem.W.isNs_of_in kin ens),PySem.W.nsMap_none_of_in kin ens einit,PySem.W.tail_of_in kin etail⟩
   ·cases e2
  ·cases e2
theorem qY {K:PySem.W.Frag} {hp:Heap} {mg:Str->Option Value} (kin:K.In hp) (gl:hp.Ns mainGlobals mg) (e1:PySem.W.nsIn K mainGlobals x=some (some (.ref C))) (e2:PySem.W.excIn K C [.type "ValueError",.type "Exception",.type "BaseException",.type "object"] "ValueError.__new__"=true):Ref x C mg hp:=
 ⟨_,_,_,_,F4 kin gl e1 e2,PySem.F.excBase_ValueError⟩
theorem rZ {K:PySem.W.Frag} {G:Hp}:∀ ns:List Int,Reps K G (ns.map V.int) (ns.map D.int)
 | []=>.nil
 | i::ns=>.cons (.int i) (rZ ns)
def zH:List D->R D
 | [.lst _ ds]=>match fC ds with
  | some _=>.ok (.bl true)
  | none=>.no
 | _=>.no
theorem bJ {K:PySem.W.Frag} {mg:Str->Option Value} {kV ct:Value} (X:K.In h) (G:h.Ns mainGlobals mg) (a:PySem.W.nsIn K mainGlobals x=some (some (.ref f)))
 (l:K.lookup f=some ⟨oc,od,.func (PySem.W.fnOf x x (cB st) (bi st) (ai st) .none kV doc pm an cdv ct),osl⟩) (c:PySem.W.codeIn K cdv x=true) (k:PySem.W.keepIn K (.ref f)=true):∃ f fd,Fun K x x st f fd/\mg x=some (.ref f):=
 ⟨f,_,vy l c k,PySem.W.mg_of X G a⟩
end Q
namespace Q
open PySem PySem.Spec PyProof.Rows L2
section
variable {K:PySem.W.Frag} {C T:Addr}
theorem zK:PySem.W.kitOne K (.ref C) (.ref C)=some (C==C):=by
 unfold PySem.W.kitOne
 rw [if_pos (by simp)];simp
theorem rF {t:Value} {b:Bool} {cd:ClassData} (h1:PySem.W.clsIn K T=some cd) (h2:PySem.W.typeIn K (.ref T)=some (.type "type")) (h3:PySem.W.subIn K t (.ref T)=some b):PySem.W.kitCls K t (.ref T)=some b:=by
 unfold PySem.W.kitCls
 dsimp only
 rw [if_pos (by rw [h1,h2];simp),h3]
theorem FY {cd:ClassData} (h1:PySem.W.clsIn K T=some cd) (h2:PySem.W.typeIn K (.ref T)=some (.type "type")) (h3:PySem.W.subIn K (.ref C) (.ref T)=some false) (hne:C≠T):PySem.W.kitOne K (.ref C) (.ref T)=some (C==T):=by
 unfold PySem.W.kitOne
 rw [if_neg (by simp [hne]),rF h1 h2 h3]
 simp [hne]
theorem EZ (h3:PySem.W.subIn K (.ref C) (.type "ValueError")=some true):PySem.W.kitOne K (.ref C) (.type "ValueError")=some true:=by
 unfold PySem.W.kitOne PySem.W.kitCls
 rw [if_neg (by simp)]
 dsimp only
 rw [if_pos (by decide +kernel),h3]
theorem Ft {cd:ClassData} (h0:PySem.W.subIn K (.ref T) (.type "BaseException")=some true) (h1:PySem.W.clsIn K T=some cd) (h2:PySem.W.typeIn K (.ref T)=some (.type "type")) (h3:PySem.W.subIn K (.ref C) (.ref T)=some true):PySem.W.exmOne K (.ref C) (.ref T)=some true:=by
 unfold PySem.W.exmOne
 rw [if_pos (by rw [h0];rfl),rF h1 h2 h3]
end
theorem qv {K:PySem.W.Frag} {cd:ClassData} (g1:PySem.W.findIn K (.ref C) "__getattribute__"=some (some (.builtin "BaseException.__getattribute__"))) (g2:PySem.W.findIn K (.ref C) "__getattr__"=some none) (g3:PySem.W.findIn K (.ref C) "__class__"=some (some (.builtin "object.__class__")))
 (g4:PySem.W.specialIn K (.builtin "object.__class__") "__get__"=some (some (.builtin "getset_descriptor.__get__"))) (g5:PySem.W.takesIn K (.builtin "object.__class__")=some true) (g6:PySem.W.mroIn K C (.type "object")=some true) (g7:PySem.W.subIn K (.ref C) (.type "BaseException")=some true)
 (g8:PySem.W.clsIn K C=some cd):ExcCls K C:=⟨g1,g2,g3,g4,g5,g6,g7,by rw [g8];rfl⟩
def TsOk (K:PySem.W.Frag):List (Str×Addr)->Prop
 | []=>True
 | t::ts=>PySem.W.nsIn K mainGlobals t.1=some (some (.ref t.2))/\(∃ q,PySem.W.clsIn K t.2=some q)/\PySem.W.typeIn K (.ref t.2)=some (.type "type")/\TsOk K ts
def SubOk (K:PySem.W.Frag) (r:Addr):List (Str×Addr)->Prop
 | []=>True
 | t::ts=>(r=t.2\/PySem.W.subIn K (.ref r) (.ref t.2)=some false)/\SubOk K r ts
noncomputable def RsOk (K:PySem.W.Frag) (L:Addr) (ts:List (Str×Addr)):List Addr->Prop
 | []=>True
 | r::rs=>ExcCls K r/\SubOk K r ts/\PySem.W.subIn K (.ref r) (.type "ValueError")=some true/\PySem.W.subIn K (.ref r) (.ref L)=some true/\RsOk K L ts rs
section
variable {K:PySem.W.Frag} {L:Addr}
theorem TsOk.at:∀ {ts:List (Str×Addr)},TsOk K ts->∀ t∈ts,PySem.W.nsIn K mainGlobals t.1=some (some (.ref t.2))/\(∃ q,PySem.W.clsIn K t.2=some q)/\PySem.W.typeIn K (.ref t.2)=some (.type "type")
 | _::_,⟨a,b,c,d⟩,t,h=>by
  rcases List.mem_cons.1 h with rfl|h
  ·exact ⟨a,b,c⟩
  ·exact TsOk.at d t h
theorem SubOk.at {r:Addr}:∀ {ts:List (Str×Addr)},SubOk K r ts->∀ t∈ts,r=t.2\/PySem.W.subIn K (.ref r) (.ref t.2)=some false
 | _::_,⟨a,d⟩,t,h=>by
  rcases List.mem_cons.1 h with rfl|h
  ·exact a
  ·exact SubOk.at d t h
theorem RsOk.at:∀ {rs:List Addr},RsOk K L ts rs->∀ r∈rs,ExcCls K r/\SubOk K r ts/\PySem.W.subIn K (.ref r) (.type "ValueError")=some true/\PySem.W.subIn K (.ref r) (.ref L)=some true
 | _::_,⟨a,b,c,e,d⟩,t,h=>by
  rcases List.mem_cons.1 h with rfl|h
  ·exact ⟨a,b,c,e⟩
  ·exact RsOk.at d t h
theorem DC {mg:Str->Option Value} {cd:ClassData} (X:K.In h) (G:h.Ns mainGlobals mg) (nL:PySem.W.nsIn K mainGlobals "LineError"=some (some (.ref L))) (h1:TsOk K ts) (h2:RsOk K L ts rs)
 (tL:PySem.W.clsIn K L=some cd) (yL:PySem.W.typeIn K (.ref L)=some (.type "type")) (lb:PySem.W.subIn K (.ref L) (.type "BaseException")=some true):Errs K mg rs ts:=by
 refine ⟨fun t ht=>PySem.W.mg_of X G (h1.at t ht).1,fun r hr=>(h2.at r hr).1,fun r hr t ht=>?_,fun r hr=>EZ (h2.at r hr).2.2.1,⟨L,PySem.W.mg_of X G nL,fun r hr=>Ft lb tL yL (h2.at r hr).2.2.2⟩⟩
 obtain ⟨_,⟨q,c⟩,y⟩:=h1.at t ht
 by_cases e:r=t.2
 ·rw [<- e];exact zK
 ·rcases (h2.at r hr).2.1.at t ht with z|z
  ·exact absurd z e
  ·exact FY c y z e
end
end Q
namespace Q
open PySem PySem.Spec PyProof.Rows L2
theorem yK {w:World} {K:PySem.W.Frag} {mg mb:Str->Option Value} {fa:Addr} {sp:Sp} {K2:Shared} {vs:List Value} {ns:List Int} {ts:List Addr} {nm:Addr->Str}
 (KX:K.In K2.heap) (hns:K2.heap.Ns mainGlobals mg) (hb:K2.heap.Ns builtinsNs mb) (hbb:∀ x:Str,x ≠ "__name__"->mb x=bootBuiltins x) (hlim:K2.heap.NoLimit) (hg:K2.gens = #[])
 (ha:K2.heap.get? a=some { cls:=.type "list",data:=.seq vs.toArray }) (hi:IntsAre vs ns) (hl:ns.length<=sizeLine) (hr:Room k callerA)
 (hts:∀ p∈ts,K2.heap.get? p=some (PySem.W.tabObj #[])/\isCodeTable K2.heap p/\K.lookup p=none)
 (hbm:∃ bm ob,mg "__builtins__"=some (Value.ref bm)/\bm≠builtinsNs/\K2.heap.get? bm=some ob/\ob.cls=Value.type "module"/\ob.dict=some builtinsNs/\ob.data=Data.plain)
 (F:∀ base:Heap,K.In base->base.Ns mainGlobals mg->(∀ p∈ts,base.BuiltinsAt mg p/\xk base p (nm p))->FnOk P w K mg base CX k fa fd [x] sp) (hbind:∀ (s:Shared) (u:Value),BindsTo s fd ⟨[u],[]⟩ [(x,u)])
 (hsp:∀ H:Hp,SqL K H a (ns.map V.int)->sp [.ref a] H (fun v _=>v=.bl true) fun _ _ _=>False)
 (hCX:∀ H e s',CX [] H K2 (fun _ _ _=>False) e s'->False) :
  codeAny (model P w) callerA (.call (.ref fa) ⟨[.ref a],[]⟩) (fun r s'=>r=.ok (.ret (.bool true))/\OldK K2.heap s'.heap/\s'.os=K2.os/\AllBare s'.gens) K2:=by
 let tf:Addr->Array Value:=fun p=>#[.str (nm p) 0]
 have rv:=rK hi
 have lenV:=hi.length
 have nat:∀ p∈ts,p≠a:=fun p hp z=>by
  have:=(hts p hp).1
  rw [z,ha] at this
  have:=congrArg Obj.data (Option.some.inj this)
  cases this
 have core:∀ H:Hp,(∀ b,b ∉ ts->H b=none\/∃ o xs,H b=some (.frz o (.lst xs)))->(∀ p∈ts,H p=some (.tbl (tf p)))->SqL K H a (ns.map V.int)->HOk P w H K2.heap->(∀ b,H b≠none->b=a\/b∈ts)->(H a≠none->K.lookup a=none)->
   codeAny (model P w) callerA (.call (.ref fa) ⟨[.ref a],[]⟩) (fun r s'=>r=.ok (.ret (.bool true))/\OldK K2.heap s'.heap/\s'.os=K2.os/\AllBare s'.gens) K2:=by
  intro H hO hO2 hS hok hA hK
  have base_of:∀ {b:Addr} {o:Obj},K2.heap.get? b=some o->H b=none->(vn K2.heap H).get? b=some o:=fun e n=>Ai e n
  have noA:∀ {b:Addr} {o:Obj} {es:Array DictEntry} {ep:Nat},K2.heap.get? b=some o->o.data=.dict es ep->H b=none:=fun {b o es ep} e d=>by
   cases q:H b with
   | none=>rfl
   | some u=>
    rcases hA b (by rw [q];simp) with e'|e'
    ·subst e'
     rw [ha] at e;cases e
     have d':Data.seq vs.toArray _=Data.dict es ep:=d
     cases d'
    ·rw [(hts b e').1] at e;cases e
     have d':Data.fields #[]=Data.dict es ep:=d
     cases d'
  have nsK:∀ {b:Addr} {m:Str->Option Value},K2.heap.Ns b m->(vn K2.heap H).Ns b m:=fun {b m} ⟨o,es,ep,e,d,r⟩=>⟨o,es,ep,base_of e (noA e d),d,r⟩
  have hKb:K.In (vn K2.heap H):=fun b o e=>base_of (KX b o e) (by
   cases q:H b with
   | none=>rfl
   | some u=>
    rcases hA b (by rw [q];simp) with e'|e'
    ·subst e'
     rw [hK (by rw [q];simp)] at e;cases e
    ·rw [(hts b e').2.2] at e;cases e)
  have hM:Mod K mg (vn K2.heap H):=⟨hKb,nsK hns,⟨mb,nsK hb,hbb⟩,let ⟨mc,h1,h2⟩:=hlim;⟨mc,nsK h1,h2⟩⟩
  have e0:Env0 P w K mg (vn K2.heap H) callerA [] K2 H:=⟨rfl,hM,fun b o e=>Cm e,Nat.le_of_eq (yY _ _),trivial,fun b hb=>absurd (show b∈([]:List Addr) from hb) (by simp),hok,.of_eq hg,yX _ _⟩
  have hBM0:∀ p∈ts,(vn K2.heap H).BuiltinsAt mg p:=fun p hp=>by
   obtain ⟨bm,ob,m1,m2,m3,m4,m5,m6⟩:=hbm
   have hn:H bm=none:=by
    cases q:H bm with
    | none=>rfl
    | some u=>
     rcases hA bm (by rw [q];simp) with e'|e'
     ·subst e'
      rw [ha] at m3;cases m3
      have d':Data.seq vs.toArray _=Data.plain:=m6
      cases d'
     ·rw [(hts bm e').1] at m3;cases m3
      have d':Data.fields #[]=Data.plain:=m6
      cases d'
   refine ⟨bm,ob,m1,m2,fun z=>?_,fun z=>?_,base_of m3 hn,m4,m5,m6⟩
   ·obtain ⟨o,es,ep,e,d,_⟩:=hns
    rw [<- z,m3] at e;cases e
    rw [m6] at d;cases d
   ·have e:=(hts p hp).1
    rw [<- z,m3] at e;cases e
    have d':Data.fields #[]=Data.plain:=m6
    cases d'
  have hBM:∀ p∈ts,(vn K2.heap H).BuiltinsAt mg p/\xk (vn K2.heap H) p (nm p):=fun p hp=>⟨hBM0 p hp,A1 (get_objs.1 (hts p hp).1).1 (hO2 p hp)⟩
  refine codeAny_mono ((F _ hKb (nsK hns) hBM).run callerA [] K2 H ⟨[.ref a],[]⟩ [.ref a] [.ref a] _ _ hr e0 (hbind K2 (.ref a)) (.cons rfl .nil) (hsp H hS)) fun r s' h=>?_
  cases r with
  | error e=>exact (hCX H e s' h).elim
  | ok fl=>
   cases fl with
   | next=>exact False.elim h
   | brk=>exact False.elim h
   | cont=>exact False.elim h
   | ret u=>
    obtain ⟨v,H',os,bare,un,hok',r',q⟩:=h
    have q':v=.bl true:=q
    subst q'
    obtain rfl:u=Value.bool true:=r'
    have tab:∀ p∈ts,∃ qs,s'.heap.get? p=some { cls:=.none,data:=.fields qs }:=fun p hp=>by
     obtain ⟨more,z⟩:=un.tbls p _ (hO2 p hp)
     obtain ⟨qs,e,_⟩:=hok' p _ z
     exact ⟨qs,e⟩
    have keep:∀ b o,b ∉ ts->K2.heap.get? b=some o->s'.heap.get? b=some o:=fun b o hb e=>by
     cases q:H b with
     | none=>exact un.keep b o e q (by intro z;exact absurd (show b∈([]:List Addr) from z) (by simp)) (by simp)
     | some u=>
      rcases hO b hb with z|⟨ob,xs,z⟩
      ·rw [q] at z;cases z
      ·have z2:=un.frzs b ob _ z
       obtain ⟨e1,_⟩:=hok b _ z
       obtain ⟨e2,_⟩:=hok' b _ z2
       rw [e] at e1;cases e1
       exact e2
    refine ⟨rfl,⟨fun b o e=>?_,fun b o e=>?_⟩,os,bare⟩
    ·by_cases hb:b∈ts
     ·obtain ⟨t1,t2,_⟩:=hts b hb
      rw [t1] at e
      cases e
      obtain ⟨qs,z⟩:=tab b hb
      exact .inr (.inl ⟨t2,rfl,#[],qs,rfl,by rw [z];simp⟩)
     ·exact .inl (keep b o hb e)
    ·by_cases hb:b∈ts
     ·obtain ⟨qs,z⟩:=tab b hb;exact ⟨_,z⟩
     ·exact ⟨o,keep b o hb e⟩
 have tabOk:∀ (H:Hp) (p:Addr),p∈ts->ObjOk P w H K2.heap p (.tbl (tf p)):=fun H p hp=>⟨#[],(hts p hp).1,trivial,fun pos cv q=>by simp [codeAmong] at q⟩
 cases hk:K.lookup a with
 | some o=>
  have e:=KX a o hk
  rw [ha] at e
  cases e
  refine core (fun b=>if b∈ts then some (.tbl (tf b)) else none) (fun b hb=>.inl (if_neg hb)) (fun p hp=>if_pos hp) (.inr ⟨_,vs.toArray,_,hk,rfl,rfl,rfl,by rw [List.size_toArray,lenV];exact hl,by simpa using rv⟩) (fun b u z=>?_) (fun b z=>?_) fun z=>absurd (if_neg fun hb=>nat a hb rfl) z
  ·by_cases hb:b∈ts
   ·have z':=(if_pos hb).symm.trans z
    cases z'
    exact tabOk _ b hb
   ·have z':=(if_neg hb).symm.trans z
    cases z'
  ·by_cases hb:b∈ts
   ·exact .inr hb
   ·exact absurd (if_neg hb) z
 | none=>
  have na:a ∉ ts:=fun z=>nat a z rfl
  refine core (fun b=>if b=a then some (.frz { cls:=.type "list",data:=.seq vs.toArray } (.lst (ns.map V.int))) else if b∈ts then some (.tbl (tf b)) else none) (fun b hb=>?_) (fun p hp=>?_) (.inl (.inr ⟨{ cls:=.type "list",data:=.seq vs.toArray },if_pos rfl⟩)) (fun b u z=>?_) (fun b z=>?_) fun _=>hk
  ·by_cases hb':b=a
   ·exact .inr ⟨_,_,if_pos hb'⟩
   ·exact .inl ((if_neg hb').trans (if_neg hb))
  ·exact (if_neg (nat p hp)).trans (if_pos hp)
  ·by_cases hb:b=a
   ·have z':=(if_pos hb).symm.trans z
    cases z'
    subst hb
    exact ⟨ha,by rw [List.length_map];exact hl,vs,_,rv,ha⟩
   ·have z':=(if_neg hb).symm.trans z
    by_cases hb2:b∈ts
    ·rw [if_pos hb2] at z'
     cases z'
     exact tabOk _ b hb2
    ·rw [if_neg hb2] at z'
     cases z'
  ·by_cases hb:b=a
   ·exact .inl hb
   ·by_cases hb2:b∈ts
    ·exact .inr hb2
    ·exact absurd ((if_neg hb).trans (if_neg hb2)) z
theorem CB {c p:Addr} (q:PySem.W.CodeHd h c p):isCodeTable h p:=by
 obtain ⟨o,vs,_,_,_,_,_,_,_,e,e1,e2,e3,_⟩:=q
 exact ⟨c,o,vs,e,e1,e2,e3⟩
theorem om {α β:Type} [BEq α] [LawfulBEq α] {a:α}:∀ {l:List (α×β)},a ∉ l.map (·.1)->l.lookup a=none
 | [],_=>rfl
 | (k,v)::r,h=>by
  simp only [List.map_cons,List.mem_cons,not_or] at h
  have:(a==k)=false:=by simp;exact h.1
  simp only [List.lookup_cons,this]
  exact om h.2
theorem GU {l:PySem.W.OpenLaw} {q:Program} {XP:(Str->Option Value)->Heap->Prop} {d:DefRec} {K:Params->PySem.W.Frag} {as:List Addr} {e:∀ P:Params,as=(K P).map (·.1)} {L:Nat} {ts:List Addr} (hL:Room L callerA) (hn:l.most=some 63) (hdf:d.params.defaults=[])
 (hts:∀ p∈ts,p ∉ as)
 (F:∀ (w:World) (mg:Str->Option Value) (fa:Addr) (h:Heap),(K w.params).In h->h.Ns mainGlobals mg->mg d.name=some (.ref fa)->
 (∀ p∈ts,isCodeTable h p)/\∃ nm:Addr->Str,
 ∃ fd:FuncData,(∀ (s:Shared) (u:Value),BindsTo s fd ⟨[u],[]⟩ [("_law_script",u)])/\∀ base:Heap,(K w.params).In base->base.Ns mainGlobals mg->(∀ p∈ts,base.BuiltinsAt mg p/\xk base p (nm p))->FnF l.prog w (K w.params) mg base L fa fd ["_law_script"] zH) :
  PySem.W.WalkO q loose XP (PySem.W.kmHook K as e ts).says l.row.toRowW d [] (fun f vs=>PySem.call f vs):=by
 refine Att.attach_call hn hdf fun w L8 K2 mg mb fa o pm cd doc a vs ns G Y ho hd hcd hmg hobj hints hlen hg=>?_
 have KX:=PySem.W.km_in_of Y
 obtain ⟨ht,nm,fd,hb,hF⟩:=F w mg fa _ KX G.T.g hmg
 refine yK KX G.T.g G.T.b G.T.builtins G.T.nolimit hg hobj hints (Nat.le_trans hlen (by decide)) hL (fun p hp=>⟨PySem.W.km_tabs_of Y p hp,ht p hp,om (by rw [<- e w.params];exact hts p hp)⟩) G.T.bmain hF hb (fun H hS=>⟨rfl,H,[.lst true (ns.map .int)],.refl _,.cons (.fls hS (rZ ns)) .nil,?_⟩) fun H e s' z=>by obtain ⟨a,C,H',_,_,z⟩:=z;exact z
 have e:zH [.lst true (ns.map .int)]=.ok (.bl true):=by simp only [zH,eA]
 rw [e]
 exact fun v G' H' u r=>r.bl_inv
theorem xW {K:PySem.W.Frag} {mg:Str->Option Value} {c:Addr} {od2:Option Addr} {sl2:Array (Option Value)} {kV ct:Value} {vs:Array Value} {file:Str} {tf tg tt:Tok} {flags text:Int} {inF:Bool} (X:K.In h) (G:h.Ns mainGlobals mg) (a:PySem.W.nsIn K mainGlobals x=some (some (.ref f)))
 (l:K.lookup f=some ⟨oc,od,.func (PySem.W.fnOf x x (cB st) (bi st) (ai st) .none kV doc pm an (.ref c) ct),osl⟩) (cI:PySem.W.codeIn K (.ref c) x=true) (k:PySem.W.keepIn K (.ref f)=true)
 (lc:K.lookup c=some ⟨.type "code",od2,.fields vs,sl2⟩) (e11:vs[11]?=some (.ref Pt)) (e11':vs.getD 11 .none=.ref Pt) (e18:vs.getD 18 .none=.str file tf) (e7:vs.getD 7 .none=.int flags tg) (e9:vs.getD 9 .none=.bool inF) (e10:vs.getD 10 .none=.int text tt) (nc:c≠Pt) (n4:mainGlobals≠Pt) :
  ∃ f fd,(Fun K x x st f fd/\mg x=some (.ref f))/\LamDef K mg fd Pt:=by
 have hc:∀ h,K.In h->PySem.W.CodeHd h c Pt:=fun h X=>⟨_,vs,file,tf,flags,tg,inF,text,tt,X _ _ lc,rfl,rfl,e11,e11',e18,e7,e9,e10,nc⟩
 exact ⟨f,_,⟨vy l cI k,PySem.W.mg_of X G a⟩,⟨⟨c,rfl,hc⟩,n4⟩⟩
theorem LamDef.tab {K:PySem.W.Frag} {mg:Str->Option Value} (L:LamDef K mg fd Pt) (X:K.In h):isCodeTable h Pt:=by
 obtain ⟨c,_,q⟩:=L.ex
 exact CB (q h X)
theorem Bn {K:PySem.W.Frag} {mg:Str->Option Value} {q:Str} {L:List (Addr×Str)} {S:Addr->FuncData->Prop} (LD:∃ f fd,S f fd/\LamDef K mg fd Pt) (X:K.In h) (r:∀ pq∈L,isCodeTable h pq.1):∀ pq∈(Pt,q)::L,isCodeTable h pq.1:=fun pq hp=>by
 obtain ⟨f,fd,_,ld⟩:=LD
 rcases List.mem_cons.1 hp with z|z
 ·rw [z];exact LamDef.tab ld X
 ·exact r pq z
theorem Gn:∀ pq∈([]:List (Addr×Str)),isCodeTable h pq.1:=fun pq hp=>by simp at hp
theorem JD {w:World} {K:PySem.W.Frag} {mg:Str->Option Value} {fa:Addr} {L:Nat} {ts:List Addr} {tq:List (Addr×Str)} (h1:∀ p∈ts,p∈tq.map (·.1)) (h2:∀ pq∈tq,pq.1∈ts/\tq.lookup pq.1=some pq.2) (hc:∀ pq∈tq,isCodeTable h pq.1)
 (a:∃ fd:FuncData,(∀ (s:Shared) (u:Value),BindsTo s fd ⟨[u],[]⟩ [("_law_script",u)])/\∀ base:Heap,K.In base->base.Ns mainGlobals mg->(∀ pq∈tq,base.BuiltinsAt mg pq.1/\xk base pq.1 pq.2)->FnF P w K mg base L fa fd ["_law_script"] zH) :
  (∀ p∈ts,isCodeTable h p)/\∃ nm:Addr->Str,∃ fd:FuncData,(∀ (s:Shared) (u:Value),BindsTo s fd ⟨[u],[]⟩ [("_law_script",u)])/\∀ base:Heap,K.In base->base.Ns mainGlobals mg->(∀ p∈ts,base.BuiltinsAt mg p/\xk base p (nm p))->
   FnF P w K mg base L fa fd ["_law_script"] zH:=by
 obtain ⟨fd',hb,hF⟩:=a
 refine ⟨fun p hp=>?_,fun p=>(tq.lookup p).getD Str.empty,fd',hb,fun base kb nb hB=>hF base kb nb fun pq hpq=>?_⟩
 ·obtain ⟨pq,hpq,rfl⟩:=List.mem_map.1 (h1 p hp)
  exact hc pq hpq
 ·obtain ⟨z1,z2⟩:=h2 pq hpq
  have:=hB pq.1 z1
  dsimp only at this
  rw [z2] at this
  exact this
end Q
namespace Q
open PySem PySem.Spec PyProof.Rows L2
theorem fB {K:PySem.W.Frag} {kV ct:Value} (a:PySem.W.findIn K (.ref C) x=some (some (.ref f))) (i:PySem.W.isFn K (.ref f)=true)
 (l:K.lookup f=some ⟨oc,od,.func (PySem.W.fnOf x qual (cB st) (bi st) (ai st) .none kV doc pm an cdv ct),osl⟩) (c:PySem.W.codeIn K cdv qual=true) (k:PySem.W.keepIn K (.ref f)=true):∃ f fd,Fun K x qual st f fd/\Meth K C x f:=
 ⟨f,_,vy l c k,⟨a,i,k⟩⟩
theorem B2 {K:PySem.W.Frag} {kV ct:Value} (a:PySem.W.findIn K (.ref C) "__init__"=some (some (.ref f))) (i:PySem.W.isFn K (.ref f)=true)
 (l:K.lookup f=some ⟨oc,od,.func (PySem.W.fnOf "__init__" qual (cB st) (bi st) (ai st) .none kV doc pm an cdv ct),osl⟩) (c:PySem.W.codeIn K cdv qual=true) (k:PySem.W.keepIn K (.ref f)=true) (mk:PySem.W.makesIn K C=true) (kc:PySem.W.keepIn K (.ref C)=true) :
  ∃ f fd,Fun K "__init__" qual st f fd/\Mk K C f:=⟨f,_,vy l c k,⟨mk,a,i,kc⟩⟩
theorem Gi {K:PySem.W.Frag} (pg:PySem.W.plainGet K C Str.empty=true) (hd:PySem.W.hasDictIn K C=true) (po:PySem.W.plainOver K C=true) (sa:PySem.W.findIn K (.ref C) "__setattr__"=some (some (.builtin "object.__setattr__"))):CF K C []:=
 ⟨⟨pg,hd,po,sa⟩,fun k hk=>by simp at hk⟩
theorem zk {K:PySem.W.Frag} {ks:List Nat} (k:Nat) (h:CF K C ks) (hk:k<fnames.length) (e:cq k=x) (n:PySem.W.findIn K (.ref C) x=some none):CF K C (k::ks):=
 ⟨h.cl,fun j hj=>by
  rcases List.mem_cons.1 hj with rfl|hj
  ·exact ⟨hk,by unfold NoAttr;rw [e];exact n⟩
  ·exact h.na j hj⟩
section
variable {P:Program} {w:World} {K:PySem.W.Frag} {mg:Str->Option Value} {base:Heap} {C:Addr} {x qual:Str} {st:Stmt} {f:Addr} {fd:FuncData} {ps:List Str} {k n:Nat} {G:MF}
theorem gH (F:Fun K x qual st f fd) (m:Meth K C x f) (ok:FnM P w K mg base k f fd ps C G)
 (h:∀ (kV doc pm:Value) (an:Option Addr) (cdv ct:Value) (us:List Value),us.length=ps.length->bindArgs (PySem.W.fnOf x qual (cB st) (bi st) (ai st) .none kV doc pm an cdv ct) ⟨us,[]⟩=pure (ps.zip us)) (e:ps.length=n+1):MCallee P w K mg base C x k n G:=
 ⟨⟨f,fd,ps,ok,m,F.binds h,e⟩⟩
theorem yr (F:Fun K x x st f fd) (hm:mg x=some (.ref f)) (ok:FnM P w K mg base k f fd ps C G)
 (h:∀ (kV doc pm:Value) (an:Option Addr) (cdv ct:Value) (us:List Value),us.length=ps.length->bindArgs (PySem.W.fnOf x x (cB st) (bi st) (ai st) .none kV doc pm an cdv ct) ⟨us,[]⟩=pure (ps.zip us)) (e:ps.length=n+1):CalleeM P w K mg base C x k n G:=
 ⟨f,fd,ps,ok,hm,F.kp,F.binds h,e⟩
theorem mkc {cn:Str} (F:Fun K x qual st f fd) (m:Mk K C f) (hc:mg cn=some (.ref C)) (ok:FnM P w K mg base k f fd ps C G)
 (h:∀ (kV doc pm:Value) (an:Option Addr) (cdv ct:Value) (us:List Value),us.length=ps.length->bindArgs (PySem.W.fnOf x qual (cB st) (bi st) (ai st) .none kV doc pm an cdv ct) ⟨us,[]⟩=pure (ps.zip us)) (e:ps.length=n+1):MkC P w K mg base C cn k n G:=
 ⟨⟨f,fd,ps,ok,m,hc,F.binds h,e⟩⟩
theorem zZ {cn:Str} (c:MkC P w K mg base C cn k n G) (k':Nat) (h:k<=k':=by decide):MkC P w K mg base C cn k' n G:=by
 obtain ⟨f,fd,ps,M,hm,hg,hb,e⟩:=c.ex
 exact ⟨⟨f,fd,ps,{ M with run:=fun A outer s H args us vs Q E hr=>M.run A outer s H args us vs Q E (hr.mono h) },hm,hg,hb,e⟩⟩
end
theorem BW {α:Type} {g:α->List D->R D} (h:∀ (ns:List Int) (fz:Bool) (q:α),g q [.lst fz (ns.map .int)]=.ok (.bl true)):∀ ds:List D,ds.length=1->zH ds=.no\/∀ q,g q ds=zH ds:=by
 intro ds hl
 match ds,hl with
 | [d],_=>
  cases d <;> first|exact Or.inl rfl|skip
  rename_i fz ds hl
  cases hi:fC ds with
  | none=>exact Or.inl (by simp only [zH,hi])
  | some ns=>
   have e:=fy hi
   subst e
   refine Or.inr fun q=>?_
   rw [h ns fz q]
   simp only [zH,hi]
end Q
namespace G86
open PySem PySem.Spec PyProof.Rows L2 Q Q86
abbrev top (i:Nat):Stmt:=PySem.Challenge.pw_screenlines_k86_whole_pad_twins.main.body.getD i (.Pass ⟨0,0,0,0⟩)
abbrev nZ0:List PySem.Str:=["_law_script","_law_begin","_law_pad","_law_rows","_law_k","_law_deed_here","_law_now","_law_due","_law_many","_law_other","_law_one","_law_at","_law_here","_law_count"]
abbrev nZ1:List PySem.Str:=["_law_script","_law_k","_law_many","_law_drawn"]
abbrev nZ2:List PySem.Str:=["_law_script","_law_at","_law_width","_law_made","_law_k","_law_long"]
abbrev nZ3:List PySem.Str:=["_law_script","_law_at","_law_width","_law_many","_law_rows"]
abbrev nZ4:List PySem.Str:=["_law_script","_law_at","_law_width","_law_many"]
abbrev nZ5:List PySem.Str:=["_law_script","_law_at","_law_screen_here","_law_way","_law_long"]
abbrev nZ6:List PySem.Str:=["_law_script","_law_at","_law_screen_here"]
abbrev nZ7:List PySem.Str:=["_law_screen_here","_law_order","_law_width","_law_rows","_law_place","_law_good","_law_text","_law_end","_law_row_here","_law_new"]
abbrev nZ8:List PySem.Str:=["_law_now","_law_deed_here","_law_screen_here","_law_spent","_law_rows","_law_k","_law_new"]
abbrev nZ9:List PySem.Str:=["_law_kept","_law_kinds","_law_some_here"]
abbrev nZ10:List PySem.Str:=["screen","row","column","number","rows"]
section
variable {P:Program} {w:World} {K:PySem.W.Frag} {mg:Str->Option Value} {base:Heap}
theorem sQ:FnScope ["_law_script","_law_k"] ["_law_script","_law_k"] (ai (top 44)):=⟨rfl,rfl,rfl,by decide +kernel,rfl,by decide +kernel,by decide +kernel⟩
theorem uC (bn:mg "len"=none) (Fn:Fun K "_law_cell" "_law_cell" (top 44) f fd):FnF P w K mg base 1 f fd ["_law_script","_law_k"] (fun ds=>aK (eO (aN 2 ds))):=by
 have hN:(["_law_script","_law_k"]:List Str).Nodup:=by decide
 refine Fn.okF sQ (k:=0) (g:=eO) fun cdv A outer s H E hr=>?_
 have hu:=hr.units
 have hh:=hr.hd
 exact (am (gX (Ey (aj at1) (eE rfl bn (ac (aj at0) ag))) (am (bu (aU (aj at0) (aj at1))) aM) aM) (am (gX (fR hu (aj at0) (mT (kI ag))) (am (bu al) aM) aM) (am (bu (bh (fH (aU (aj at0) (vJ (aj at1) (eE rfl bn (ac (aj at0) ag)))) al) (aj at1))) aM)))
theorem sK:FnScope nZ1 ["_law_script","_law_k","_law_many"] (ai (top 45)):=⟨rfl,rfl,rfl,by decide +kernel,rfl,by decide +kernel,by decide +kernel⟩
theorem uf {bV:List D->R D} (sJ:Callee P w K mg base "_law_cell" 1 2 bV) (Fn:Fun K "_law_pick" "_law_pick" (top 45) f fd):FnF P w K mg base 2 f fd ["_law_script","_law_k","_law_many"] (fun ds=>aK (eU bV (aN 4 ds))):=by
 have hN:(nZ1:List Str).Nodup:=by decide
 refine Fn.okF sK (k:=1) (g:=eU bV) fun cdv A outer s H E hr=>?_
 have hu:=hr.units
 have hh:=hr.hd
 exact (am (cN at3 hN (vJ (fH (bh (bd sJ hr (ac (aj at0) (ac (aj at1) ag))) (fH al (bh (aj at1) al))) al) al)) (am (bu (vJ (vJ (bh (fH (aj at3) (aj at3)) (De (aj at3) al)) al) (aj at2))) aM))
theorem wx:FnScope nZ2 ["_law_script","_law_at","_law_width"] (ai (top 46)):=⟨rfl,rfl,rfl,by decide +kernel,rfl,by decide +kernel,by decide +kernel⟩
theorem vS (bI:mg "range"=none) (bj:Callee P w K mg base "_law_pick" 2 3 ao) (Fn:Fun K "_law_row" "_law_row" (top 46) f fd):FnF P w K mg base 3 f fd ["_law_script","_law_at","_law_width"] (fun ds=>aK (fm ao (aN 6 ds))):=by
 have hN:(nZ2:List Str).Nodup:=by decide
 refine Fn.okF wx (k:=2) (g:=fm ao) fun cdv A outer s H E hr=>?_
 have hu:=hr.units
 have hh:=hr.hd
 exact (am (cN at3 hN (bb (l:=[]) rfl (by decide))) (am (wk PassesOwn.leaving rfl (eV rfl bI (ac (aj at2) ag)) (dM 4 hN) (am (cN at3 hN (bh (aj at3) (aU (bb (l:=[32,32,97,98,35]) rfl (by decide)) (bd bj hr (ac (aj at0) (ac (bh (bh (aj at1) al) (aj at4)) (ac al ag))))))) aM)) (am (cN at5 hN (bd bj hr (ac (aj at0) (ac (aj at1) (ac (bh (aj at2) al) ag))))) (am (bu (wV (fR hu (bd bj hr (ac (aj at0) (ac (bh (aj at1) al) (ac al ag)))) al) (aj at3) (bh (du (aj at3) dt (ig (aj at5))) (fH (bb (l:=[32]) rfl (by decide)) (nz (aj at2) (aj at5)))))) aM))))
theorem pW:FnScope nZ3 nZ4 (ai (top 47)):=⟨rfl,rfl,rfl,by decide +kernel,rfl,by decide +kernel,by decide +kernel⟩
theorem pK {cm:List D->R D} (bI:mg "range"=none) (bH:mg "tuple"=none) (wG:Callee P w K mg base "_law_row" 3 3 cm) (bj:Callee P w K mg base "_law_pick" 3 3 ao) (Fn:Fun K "_law_screen" "_law_screen" (top 47) f fd):FnF P w K mg base 4 f fd nZ4 (fun ds=>aK (dj cm ao (aN 5 ds))):=by
 have hN:(nZ3:List Str).Nodup:=by decide
 refine Fn.okF pW (k:=3) (g:=dj cm ao) fun cdv A outer s H E hr=>?_
 have hu:=hr.units
 have hh:=hr.hd
 exact (am (cN at4 hN (lD rfl bH (ac (uL (lf (N':=["_law_k","_law_script","_law_at","_law_width"]) (ix:=[0,1,2]) lI rfl (eV rfl bI (ac (aj at3) ag)) (fun C K3 K4 fp=>(bd wG hr (ac (eK at1) (ac (bh (eK at2) (fH al (eK at0))) (ac (eK at3) ag))))) (fun C K3 K4 fp=>lG))) ag))) (am (bu (cz (ac (aj at2) (ac (aj at4) (ac (cz (ac (bd bj hr (ac (aj at0) (ac (bh (aj at1) al) (ac (aj at3) ag)))) (ac (bd bj hr (ac (aj at0) (ac (bh (aj at1) al) (ac (bh (aj at2) al) ag)))) ag))) ag))))) aM))
theorem ub:FnScope ["_law_script","_law_at"] ["_law_script","_law_at"] (ai (top 48)):=⟨rfl,rfl,rfl,by decide +kernel,rfl,by decide +kernel,by decide +kernel⟩
theorem sW {bW:List D->R D} (bj:Callee P w K mg base "_law_pick" 4 3 ao) (oX:Callee P w K mg base "_law_screen" 4 4 bW) (Fn:Fun K "_law_some" "_law_some" (top 48) f fd):FnF P w K mg base 5 f fd ["_law_script","_law_at"] (fun ds=>aK (gJ ao bW (aN 2 ds))):=by
 have hN:(["_law_script","_law_at"]:List Str).Nodup:=by decide
 refine Fn.okF ub (k:=4) (g:=gJ ao bW) fun cdv A outer s H E hr=>?_
 have hu:=hr.units
 have hh:=hr.hd
 exact (am (bu (bd oX hr (ac (aj at0) (ac (bh (aj at1) al) (ac (bh al (bd bj hr (ac (aj at0) (ac (aj at1) (ac al ag))))) (ac (bh al (bd bj hr (ac (aj at0) (ac (bh (aj at1) al) (ac al ag))))) ag)))))) aM)
theorem sx:FnScope nZ5 nZ6 (ai (top 52)):=⟨rfl,rfl,rfl,by decide +kernel,rfl,by decide +kernel,by decide +kernel⟩
theorem sX (bn:mg "len"=none) (bI:mg "range"=none) (bj:Callee P w K mg base "_law_pick" 2 3 ao) (Fn:Fun K "_law_deed" "_law_deed" (top 52) f fd):FnF P w K mg base 3 f fd nZ6 (fun ds=>aK (eN ao (aN 5 ds))):=by
 have hN:(nZ5:List Str).Nodup:=by decide
 refine Fn.okF sx (k:=2) (g:=eN ao) fun cdv A outer s H E hr=>?_
 have hu:=hr.units
 have hh:=hr.hd
 exact (am (cN at3 hN (bd bj hr (ac (aj at0) (ac (aj at1) (ac al ag))))) (am (gX (fR hu (aj at3) al) (am (bu (cz (ac (bb (l:=[115,99,114,111,108,108]) rfl (by decide)) (ac (nz (bd bj hr (ac (aj at0) (ac (bh (aj at1) al) (ac al ag)))) al) ag)))) aM) aM) (am (gX (fR hu (aj at3) al) (am (bu (cz (ac (bb (l:=[100,111]) rfl (by decide)) (ac (cz (ac (bb (l:=[119,105,112,101]) rfl (by decide)) ag)) ag)))) aM) aM) (am (gX (Ey (aj at3) al) (am (bu (cz (ac (bb (l:=[100,111]) rfl (by decide)) (ac (cz (ac (bb (l:=[103,111]) rfl (by decide)) (ac (bd bj hr (ac (aj at0) (ac (bh (aj at1) al) (ac (bh (eE rfl bn (ac (aU (aj at2) al) ag)) al) ag)))) (ac (bd bj hr (ac (aj at0) (ac (bh (aj at1) al) (ac (bh (aU (aj at2) al) al) ag)))) ag)))) ag)))) aM) aM) (am (cN at4 hN (bh al (bd bj hr (ac (aj at0) (ac (bh (aj at1) al) (ac al ag)))))) (am (bu (cz (ac (bb (l:=[100,111]) rfl (by decide)) (ac (cz (ac (bb (l:=[115,97,121]) rfl (by decide)) (ac (FK (bb (l:=[]) rfl (by decide)) (ac (uL (lf (N':=["_law_k","_law_script","_law_at"]) (ix:=[0,1]) lI rfl (eV rfl bI (ac (aj at4) ag)) (fun C K3 K4 fp=>(aU (bb (l:=[97,98,35,32]) rfl (by decide)) (bd bj hr (ac (eK at1) (ac (bh (bh (eK at2) al) (eK at0)) (ac al ag)))))) (fun C K3 K4 fp=>lG))) ag)) ag))) ag)))) aM))))))
theorem tU:FnScope nZ7 ["_law_screen_here","_law_order"] (ai (top 49)):=⟨rfl,rfl,rfl,by decide +kernel,rfl,by decide +kernel,by decide +kernel⟩
theorem tQ (bn:mg "len"=none) (Fn:Fun K "_law_step" "_law_step" (top 49) f fd):FnF P w K mg base 1 f fd ["_law_screen_here","_law_order"] (fun ds=>aK (eT (aN 10 ds))):=by
 have hN:(nZ7:List Str).Nodup:=by decide
 refine Fn.okF tU (k:=0) (g:=eT) fun cdv A outer s H E hr=>?_
 have hu:=hr.units
 have hh:=hr.hd
 exact (am (uM (aj at0) rfl (cR 2 hN (cR 3 hN (cR 4 hN kQ)))) (am (gX (fR hu (aU (aj at1) al) (bb (l:=[103,111]) rfl (by decide))) (am (cN at5 hN (hZ (Hx (aU (aj at1) al) (eE rfl bn (ac (aj at3) ag))) (jt (HX (aU (aj at1) al) (aj at2))))) (am (bu (wV (CS (aj at5)) (cz (ac (aj at2) (ac (aj at3) (ac (cz (ac (aU (aj at1) al) (ac (aU (aj at1) al) ag))) ag)))) (bb (l:=[110,111,32,114,111,111,109]) rfl (by decide)))) aM)) aM) (am (cN at6 hN (wV (fR hu (aU (aj at1) al) (bb (l:=[115,97,121]) rfl (by decide))) (aU (aj at1) al) (fH (bb (l:=[32]) rfl (by decide)) (nz (aj at2) (aU (aj at4) al))))) (am (cN at7 hN (bh (aU (aj at4) al) (eE rfl bn (ac (aj at6) ag)))) (am (gX (xS (aj at7) (aj at2)) (am (bu (bb (l:=[110,111,32,114,111,111,109]) rfl (by decide))) aM) aM) (am (cN at8 hN (aU (aj at3) (aU (aj at4) al))) (am (cN at8 hN (bh (bh (du (aj at8) dt (ig (aU (aj at4) al))) (aj at6)) (du (aj at8) (ig (aj at7)) dt))) (am (cN at9 hN (bh (bh (du (aj at3) dt (ig (aU (aj at4) al))) (cz (ac (aj at8) ag))) (du (aj at3) (ig (bh (aU (aj at4) al) al)) dt))) (am (bu (cz (ac (aj at2) (ac (aj at9) (ac (cz (ac (aU (aj at4) al) (ac (wV (fR hu (aU (aj at1) al) (bb (l:=[115,97,121]) rfl (by decide))) (aj at7) (aU (aj at4) al)) ag))) ag))))) aM)))))))))
theorem oW:FnScope nZ8 ["_law_now","_law_deed_here"] (ai (top 53)):=⟨rfl,rfl,rfl,by decide +kernel,rfl,by decide +kernel,by decide +kernel⟩
theorem qk {bc:List D->R D} (jf:mg "int"=none) (bn:mg "len"=none) (bI:mg "range"=none) (bH:mg "tuple"=none) (uB:Callee P w K mg base "_law_step" 1 2 bc) (Fn:Fun K "_law_behind" "_law_behind" (top 53) f fd):FnF P w K mg base 2 f fd ["_law_now","_law_deed_here"] (fun ds=>aK (dq bc (aN 7 ds))):=by
 have hN:(nZ8:List Str).Nodup:=by decide
 refine Fn.okF oW (k:=1) (g:=dq bc) fun cdv A outer s H E hr=>?_
 have hu:=hr.units
 have hh:=hr.hd
 exact (am (uM (aj at0) rfl (cR 2 hN (cR 3 hN kQ))) (am (gX (fR hu (aU (aj at1) al) (bb (l:=[115,99,114,111,108,108]) rfl (by decide))) (am (Gd 4 hN (kI ag)) (am (wk PassesOwn.leaving rfl (yo rfl bI (ac (aU (aj at1) al) (ac (bh (aU (aj at1) al) (eE rfl bn (ac (aU (aj at2) al) ag))) ag))) (dM 5 hN) (am (AL 4 (wV (zh al (aj at5) (eE rfl bn (ac (aU (aj at2) al) ag))) (aU (aU (aj at2) al) (aj at5)) (fH (bb (l:=[32]) rfl (by decide)) (aU (aj at2) al)))) aM)) (Dp 4 (am (bu (cz (ac (cz (ac (cz (ac (aU (aj at2) al) (ac (lD rfl bH (ac (aj at4) ag)) (ac (aU (aj at2) al) ag)))) (ac (aj at3) ag))) (ac F6 ag)))) aM)))) aM) (am (cN at6 hN (bd uB hr (ac (aj at2) (ac (aU (aj at1) al) ag)))) (am (gX (fR hu (aj at6) (bb (l:=[110,111,32,114,111,111,109]) rfl (by decide))) (am (bu (cz (ac (aj at0) (ac (aj at6) ag)))) aM) aM) (am (cN at3 hN (bh (aj at3) (wV (fR hu (aU (aU (aj at1) al) al) (bb (l:=[115,97,121]) rfl (by decide))) (eE rfl bn (ac (aU (aU (aj at1) al) al) ag)) (bh al (sZ rfl jf (ac (xH hu (aU (aU (aj at1) al) al) (bb (l:=[103,111]) rfl (by decide))) ag)))))) (am (bu (cz (ac (cz (ac (aj at6) (ac (aj at3) ag))) (ac (aj at3) ag)))) aM))))))
theorem qr:FnScope nZ9 ["_law_kept"] (ai (top 50)):=⟨rfl,rfl,rfl,by decide +kernel,rfl,by decide +kernel,by decide +kernel⟩
theorem rM (dv:mg "ValueError"=none) (aF:mg "isinstance"=none) (Er:Errs K mg rs [("NoScreen",af),("NoOrder",ar),("NoRoom",ak),("NoNumber",aq),("NoTable",aI),("NoTask",aQ),("NoText",aP),("NoBack",ah)]) (Fn:Fun K "_law_class" "_law_class" (top 50) f fd):FnFH P w K mg base 1 f fd ["_law_kept"] (fun ds=>fN (aK (dG ar aq ah ak aQ aI af aP rs (aN 3 ds)))):=by
 have hN:(nZ9:List Str).Nodup:=by decide
 refine Fn.okFH qr (k:=0) (g:=dG ar aq ah ak aQ aI af aP rs) fun cdv A outer s H E a xe hr=>?_
 have hu:=hr.units
 have hh:=hr.hd
 exact (am (Gd 1 hN (kI (ac (gC (T:=ah) Er (.tail _ (.tail _ (.tail _ (.tail _ (.tail _ (.tail _ (.tail _ (.head _)))))))) aF (dY at0)) (ac (gC (T:=aq) Er (.tail _ (.tail _ (.tail _ (.head _)))) aF (dY at0)) (ac (gC (T:=ar) Er (.tail _ (.head _)) aF (dY at0)) ag))))) (am (A0 1 (mT (kI (ac (gC (T:=ak) Er (.tail _ (.tail _ (.head _))) aF (dY at0)) ag)))) (Dp 1 (am (yS at1 hN (bh (dY at1) (mT (kI (ac (gC (T:=af) Er (.head _) aF (dY at0)) (ac (gC (T:=aI) Er (.tail _ (.tail _ (.tail _ (.tail _ (.head _))))) aF (dY at0)) (ac (gC (T:=aQ) Er (.tail _ (.tail _ (.tail _ (.tail _ (.tail _ (.head _)))))) aF (dY at0)) ag))))))) (am (yS at1 hN (bh (dY at1) (mT (kI (ac (gC (T:=aP) Er (.tail _ (.tail _ (.tail _ (.tail _ (.tail _ (.tail _ (.head _))))))) aF (dY at0)) ag))))) (am (gX (pF (jE (ml hu (B6 (dY at1) (ac iV ag)) al) (fk (gj (ie (E0 Er aF dv (dY at0))))))) (am (bu (bb (l:=[119,114,111,110,103]) rfl (by decide))) aM) aM) (am (yS at2 hN (mT (kI (ac (bb (l:=[110,111,32,98,97,99,107]) rfl (by decide)) (ac (bb (l:=[110,111,32,110,117,109,98,101,114]) rfl (by decide)) (ac (bb (l:=[110,111,32,111,114,100,101,114]) rfl (by decide)) (ac (bb (l:=[110,111,32,114,111,111,109]) rfl (by decide)) (ac (bb (l:=[110,111,32,115,99,114,101,101,110]) rfl (by decide)) (ac (bb (l:=[110,111,32,116,97,98,108,101]) rfl (by decide)) (ac (bb (l:=[110,111,32,116,97,115,107]) rfl (by decide)) (ac (bb (l:=[110,111,32,116,101,120,116]) rfl (by decide)) ag))))))))))) (am (bu (aU (dY at2) (BX (dY at1) (ac iV ag)))) aM))))))))
theorem iI:FnScope ["_law_deed_here","e"] ["_law_deed_here"] (ai (top 51)):=⟨rfl,rfl,rfl,by decide +kernel,rfl,by decide +kernel,by decide +kernel⟩
theorem mJ {cj:List D->R D} (qG:CalleeH P w K mg base "_law_class" k 1 cj) (Er:Errs K mg rs [("NoScreen",af),("NoOrder",ar),("NoRoom",ak),("NoNumber",aq),("NoTable",aI),("NoTask",aQ),("NoText",aP),("NoBack",ah)]) (F:Fun K "_law_told" "_law_told" (top 51) f fd) (m:mg "_law_told"=some (.ref f)):Told P w K mg base "_law_told" (k+1) k (bF cj rs):=by
 obtain ⟨L,hL,hk⟩:=Er.le
 refine C4 (y:="_law_deed_here") (nm:="e") (gs:=gP cj) (fe:=vz rs) F m iI rfl (fun _ _ _ _ _ _ _=>rfl) (fun cdv A outer s H E a xe hr=>?_) (fun C h=>?_) rfl hL rfl rfl
 ·exact (am (bu (AW qG hr (ac (dY at1) ag))) aM)
 ·unfold vz at h
  split at h
  ·rename_i hC;exact hk C hC
  ·cases h
theorem tD:FnScope ["thing"] ["thing"] (ai (top 12)):=⟨rfl,rfl,rfl,by decide +kernel,rfl,by decide +kernel,by decide +kernel⟩
theorem sO (qQ:mg "bool"=none) (jf:mg "int"=none) (aF:mg "isinstance"=none) (Fn:Fun K "is_whole" "is_whole" (top 12) f fd):FnF P w K mg base 1 f fd ["thing"] (fun ds=>aK (eI (aN 1 ds))):=by
 have hN:(["thing"]:List Str).Nodup:=by decide
 refine Fn.okF tD (k:=0) (g:=eI) fun cdv A outer s H E hr=>?_
 have hu:=hr.units
 have hh:=hr.hd
 exact (am (bu (hZ (BM aF (aj at0) jf) (jt (Ed (Ah aF (aj at0) qQ))))) aM)
theorem qJ:FnScope ["thing","low","high"] ["thing","low","high"] (ai (top 13)):=⟨rfl,rfl,rfl,by decide +kernel,rfl,by decide +kernel,by decide +kernel⟩
theorem rR {dg:List D->R D} (wu:Callee P w K mg base "is_whole" 1 1 dg) (Fn:Fun K "is_within" "is_within" (top 13) f fd):FnF P w K mg base 2 f fd ["thing","low","high"] (fun ds=>aK (dN dg (aN 3 ds))):=by
 have hN:(["thing","low","high"]:List Str).Nodup:=by decide
 refine Fn.okF qJ (k:=1) (g:=dN dg) fun cdv A outer s H E hr=>?_
 have hu:=hr.units
 have hh:=hr.hd
 exact (am (bu (hZ (bd wu hr (ac (aj at0) ag)) (jt (uz (aj at1) (aj at0) (aj at2))))) aM)
theorem tM:FnScope ["thing"] ["thing"] (ai (top 14)):=⟨rfl,rfl,rfl,by decide +kernel,rfl,by decide +kernel,by decide +kernel⟩
theorem ti (qN:mg "all"=none) (aF:mg "isinstance"=none) (xx:mg "str"=none) (Fn:Fun K "is_plain" "is_plain" (top 14) f fd):FnF P w K mg base 1 f fd ["thing"] (fun ds=>aK (eW (aN 1 ds))):=by
 have hN:(["thing"]:List Str).Nodup:=by decide
 refine Fn.okF tM (k:=0) (g:=eW) fun cdv A outer s H E hr=>?_
 have hu:=hr.units
 have hh:=hr.hd
 exact (am (bu (hZ (Dr aF (aj at0) xx) (jt (E4 rfl rfl qN (ac (uL (lf (N':=["sign"]) (ix:=[]) lI rfl (A9 (aj at0)) (fun C K3 K4 fp=>(uz (bb (l:=[32]) rfl (by decide)) (eK at0) (bb (l:=[126]) rfl (by decide)))) (fun C K3 K4 fp=>lG))) ag))))) aM)
theorem kL:FnScope ["thing","width"] ["thing","width"] (ai (top 18)):=⟨rfl,rfl,rfl,by decide +kernel,rfl,by decide +kernel,by decide +kernel⟩
theorem kM (qN:mg "all"=none) (aF:mg "isinstance"=none) (bn:mg "len"=none) (bH:mg "tuple"=none) {df:Tok} (bq:mg "MOST_ROWS"=some (.int 12 df)) (jJ:Callee P w K mg base "is_plain" 1 1 bw) (Fn:Fun K "are_full_rows" "are_full_rows" (top 18) f fd):FnF P w K mg base 2 f fd ["thing","width"] (fun ds=>aK (ck bw (aN 2 ds))):=by
 have hN:(["thing","width"]:List Str).Nodup:=by decide
 refine Fn.okF kL (k:=1) (g:=ck bw) fun cdv A outer s H E hr=>?_
 have hu:=hr.units
 have hh:=hr.hd
 exact (am (gX (pF (jE (gj (ie (jx aF (aj at0) bH))) (fk (gj (CD al (eE rfl bn (ac (aj at0) ag)) (dI rfl bq)))))) (am (bu iV) aM) aM) (am (bu (E4 rfl rfl qN (ac (uL (lf (N':=["row","width"]) (ix:=[1]) lI rfl (A9 (aj at0)) (fun C K3 K4 fp=>(hZ (bd jJ hr (ac (eK at0) ag)) (jt (xH hu (eE rfl bn (ac (eK at0) ag)) (eK at1))))) (fun C K3 K4 fp=>lG))) ag))) aM))
theorem tK:FnScope ["thing","width","many"] ["thing","width","many"] (ai (top 19)):=⟨rfl,rfl,rfl,by decide +kernel,rfl,by decide +kernel,by decide +kernel⟩
theorem sS (aF:mg "isinstance"=none) (bn:mg "len"=none) (bH:mg "tuple"=none) (cb:Callee P w K mg base "is_within" 2 3 ax) (Fn:Fun K "is_place" "is_place" (top 19) f fd):FnF P w K mg base 3 f fd ["thing","width","many"] (fun ds=>aK (eG ax (aN 3 ds))):=by
 have hN:(["thing","width","many"]:List Str).Nodup:=by decide
 refine Fn.okF tK (k:=2) (g:=eG ax) fun cdv A outer s H E hr=>?_
 have hu:=hr.units
 have hh:=hr.hd
 exact (am (gX (pF (jE (gj (ie (jx aF (aj at0) bH))) (fk (ml hu (eE rfl bn (ac (aj at0) ag)) al)))) (am (bu iV) aM) aM) (am (bu (hZ (bd cb hr (ac (aU (aj at0) al) (ac al (ac (nz (aj at2) al) ag)))) (jt (bd cb hr (ac (aU (aj at0) al) (ac al (ac (aj at1) ag))))))) aM))
theorem rA:FnScope ["thing","width"] ["thing"] (ai (top 20)):=⟨rfl,rfl,rfl,by decide +kernel,rfl,by decide +kernel,by decide +kernel⟩
theorem rz {ba bG:List D->R D} (aF:mg "isinstance"=none) (bn:mg "len"=none) (bH:mg "tuple"=none) {eR:Tok} (bD:mg "MOST_WIDTH"=some (.int 40 eR)) (cb:Callee P w K mg base "is_within" 3 3 ax) (lx:Callee P w K mg base "are_full_rows" 3 2 ba) (vV:Callee P w K mg base "is_place" 3 3 bG) (Fn:Fun K "is_screen" "is_screen" (top 20) f fd):FnF P w K mg base 4 f fd ["thing"] (fun ds=>aK (dH ax ba bG (aN 2 ds))):=by
 have hN:(["thing","width"]:List Str).Nodup:=by decide
 refine Fn.okF rA (k:=3) (g:=dH ax ba bG) fun cdv A outer s H E hr=>?_
 have hu:=hr.units
 have hh:=hr.hd
 exact (am (gX (pF (jE (gj (ie (jx aF (aj at0) bH))) (fk (ml hu (eE rfl bn (ac (aj at0) ag)) al)))) (am (bu iV) aM) aM) (am (cN at1 hN (aU (aj at0) al)) (am (gX (pF (jE (gj (ie (bd cb hr (ac (aj at1) (ac al (ac (dI rfl bD) ag)))))) (fk (gj (ie (bd lx hr (ac (aU (aj at0) al) (ac (aj at1) ag)))))))) (am (bu iV) aM) aM) (am (bu (bd vV hr (ac (aU (aj at0) al) (ac (aj at1) (ac (eE rfl bn (ac (aU (aj at0) al) ag)) ag))))) aM))))
theorem lS:FnScope ["thing"] ["thing"] (ai (top 21)):=⟨rfl,rfl,rfl,by decide +kernel,rfl,by decide +kernel,by decide +kernel⟩
theorem mY {cK:List D->R D} (jS:Ref "NoScreen" af mg base) (uA:Callee P w K mg base "is_screen" 4 1 cK) (Fn:Fun K "check_screen" "check_screen" (top 21) f fd):FnF P w K mg base 5 f fd ["thing"] (fun ds=>aK (cD cK af (aN 1 ds))):=by
 have hN:(["thing"]:List Str).Nodup:=by decide
 refine Fn.okF lS (k:=4) (g:=cD cK af) fun cdv A outer s H E hr=>?_
 have hu:=hr.units
 have hh:=hr.hd
 exact (am (gX (gj (ie (bd uA hr (ac (aj at0) ag)))) (am (iC jS hh (bb (l:=[116,104,105,115,32,105,115,32,110,111,32,115,99,114,101,101,110]) rfl (by decide))) aM) aM) aM)
theorem lY:FnScope ["screen","number"] ["screen","number"] (ai (top 38)):=⟨rfl,rfl,rfl,by decide +kernel,rfl,by decide +kernel,by decide +kernel⟩
theorem mz (bn:mg "len"=none) (Fn:Fun K "row_or_blank" "row_or_blank" (top 38) f fd):FnF P w K mg base 1 f fd ["screen","number"] (fun ds=>aK (dA (aN 2 ds))):=by
 have hN:(["screen","number"]:List Str).Nodup:=by decide
 refine Fn.okF lY (k:=0) (g:=dA) fun cdv A outer s H E hr=>?_
 have hu:=hr.units
 have hh:=hr.hd
 exact (am (gX (zh al (aj at1) (eE rfl bn (ac (aU (aj at0) al) ag))) (am (bu (aU (aU (aj at0) al) (aj at1))) aM) aM) (am (bu (fH (bb (l:=[32]) rfl (by decide)) (aU (aj at0) al))) aM))
theorem ut:FnScope ["screen","by","rows"] ["screen","by"] (ai (top 39)):=⟨rfl,rfl,rfl,by decide +kernel,rfl,by decide +kernel,by decide +kernel⟩
theorem sI {bg:List D->R D} (bn:mg "len"=none) (bI:mg "range"=none) (bH:mg "tuple"=none) {df:Tok} (bq:mg "MOST_ROWS"=some (.int 12 df)) (jX:Ref "NoNumber" aq mg base) (cC:Callee P w K mg base "check_screen" 5 1 aw) (cb:Callee P w K mg base "is_within" 5 3 ax) (nN:Callee P w K mg base "row_or_blank" 5 2 bg) (Fn:Fun K "scrolled" "scrolled" (top 39) f fd):FnF P w K mg base 6 f fd ["screen","by"] (fun ds=>aK (gB aw ax bg aq (aN 3 ds))):=by
 have hN:(["screen","by","rows"]:List Str).Nodup:=by decide
 refine Fn.okF ut (k:=5) (g:=gB aw ax bg aq) fun cdv A outer s H E hr=>?_
 have hu:=hr.units
 have hh:=hr.hd
 exact (am (vG (bd cC hr (ac (aj at0) ag))) (am (gX (gj (ie (bd cb hr (ac (aj at1) (ac (wn (dI rfl bq)) (ac (dI rfl bq) ag)))))) (am (iC jX hh (bb (l:=[97,32,115,99,114,101,101,110,32,105,115,32,115,99,114,111,108,108,101,100,32,98,121,32,45,49,50,32,116,111,32,49,50,32,114,111,119,115]) rfl (by decide))) aM) aM) (am (CY 2 hN (N':=["number","screen","by"]) (ix:=[0,1]) lI rfl (eV rfl bI (ac (eE rfl bn (ac (aU (aj at0) al) ag)) ag)) (fun C K3 K4 fp=>(bd nN hr (ac (eK at1) (ac (bh (eK at0) (eK at2)) ag)))) (fun C K3 K4 fp=>lG)) (Dp 2 (am (bu (cz (ac (aU (aj at0) al) (ac (lD rfl bH (ac (aj at2) ag)) (ac (aU (aj at0) al) ag))))) aM)))))
theorem rP:FnScope ["self"] ["self"] (ai (aY (top 42) 2)):=⟨rfl,rfl,rfl,by decide +kernel,rfl,by decide +kernel,by decide +kernel⟩
theorem rB (aV:CF K ae [0,1]) (ok:ce ae (jm ae) 1 F) (Fn:Fun K "spent" "Pad.spent" (aY (top 42) 2) f fd):FnM P w K mg base 1 f fd ["self"] ae F:=by
 have hN:(["self"]:List Str).Nodup:=by decide
 refine Fn.okM rP ok (k:=0) fun cdv A outer s H E hr=>?_
 have hu:=hr.units
 have hh:=hr.hd
 exact (am (bu (aU (yz 0 0 aV (by decide) (wn al)) al)) aM)
theorem nM:FnScope ["self","step","screen","price"] ["self","step","screen","price"] (ai (aY (top 42) 3)):=⟨rfl,rfl,rfl,by decide +kernel,rfl,by decide +kernel,by decide +kernel⟩
theorem nS (aV:CF K ae [0,1]) (dX:MCallee P w K mg base ae "spent" 1 0 aW) (ok:ce ae (gv ae aW) 4 F) (Fn:Fun K "step_to" "Pad.step_to" (aY (top 42) 3) f fd):FnM P w K mg base 2 f fd ["self","step","screen","price"] ae F:=by
 have hN:(["self","step","screen","price"]:List Str).Nodup:=by decide
 refine Fn.okM nM ok (k:=1) fun cdv A outer s H E hr=>?_
 have hu:=hr.units
 have hh:=hr.hd
 exact (am (yE 0 0 aV (by decide) (cz (ac (aj at1) (ac (aj at2) (ac (bh (dm 0 aV dX hr) (aj at3)) ag))))) (am (rG 0 1 aV (by decide) (kI ag)) aM))
theorem qD:FnScope ["self"] ["self"] (ai (aY (top 42) 1)):=⟨rfl,rfl,rfl,by decide +kernel,rfl,by decide +kernel,by decide +kernel⟩
theorem sh (aV:CF K ae [0,1]) (ok:ce ae (jA ae) 1 F) (Fn:Fun K "sheet" "Pad.sheet" (aY (top 42) 1) f fd):FnM P w K mg base 1 f fd ["self"] ae F:=by
 have hN:(["self"]:List Str).Nodup:=by decide
 refine Fn.okM qD ok (k:=0) fun cdv A outer s H E hr=>?_
 have hu:=hr.units
 have hh:=hr.hd
 exact (am (bu (aU (yz 0 0 aV (by decide) (wn al)) al)) aM)
theorem pf:FnScope ["self","by"] ["self","by"] (ai (aY (top 42) 5)):=⟨rfl,rfl,rfl,by decide +kernel,rfl,by decide +kernel,by decide +kernel⟩
theorem pT {dW:List D->R D} (wt:Callee P w K mg base "scrolled" 6 2 dW) (aV:CF K ae [0,1]) (fh:MCallee P w K mg base ae "step_to" 6 3 aZ) (cL:MCallee P w K mg base ae "sheet" 6 0 aR) (ok:ce ae (ib ae aZ aR dW) 2 F) (Fn:Fun K "scroll" "Pad.scroll" (aY (top 42) 5) f fd):FnM P w K mg base 7 f fd ["self","by"] ae F:=by
 have hN:(["self","by"]:List Str).Nodup:=by decide
 refine Fn.okM pf ok (k:=6) fun cdv A outer s H E hr=>?_
 have hu:=hr.units
 have hh:=hr.hd
 exact (am (zp 0 aV fh hr (ac (bb (l:=[115,99,114,111,108,108]) rfl (by decide)) (ac (bd wt hr (ac (dm 0 aV cL hr) (ac (aj at1) ag))) (ac al ag)))) aM)
theorem xQ:FnScope ["thing"] ["thing"] (ai (top 26)):=⟨rfl,rfl,rfl,by decide +kernel,rfl,by decide +kernel,by decide +kernel⟩
theorem xw (bn:mg "len"=none) {nD:Tok} (cJ:mg "MOST_SAID"=some (.int 40 nD)) (jJ:Callee P w K mg base "is_plain" 1 1 bw) (Fn:Fun K "is_say" "is_say" (top 26) f fd):FnF P w K mg base 2 f fd ["thing"] (fun ds=>aK (gS bw (aN 1 ds))):=by
 have hN:(["thing"]:List Str).Nodup:=by decide
 refine Fn.okF xQ (k:=1) (g:=gS bw) fun cdv A outer s H E hr=>?_
 have hu:=hr.units
 have hh:=hr.hd
 exact (am (bu (hZ (xH hu (eE rfl bn (ac (aj at0) ag)) al) (hZ (xH hu (aU (aj at0) al) (bb (l:=[115,97,121]) rfl (by decide))) (hZ (bd jJ hr (ac (aU (aj at0) al) ag)) (jt (uz al (eE rfl bn (ac (aU (aj at0) al) ag)) (dI rfl cJ))))))) aM)
theorem zR:FnScope ["thing"] ["thing"] (ai (top 27)):=⟨rfl,rfl,rfl,by decide +kernel,rfl,by decide +kernel,by decide +kernel⟩
theorem zI (bn:mg "len"=none) {df:Tok} (bq:mg "MOST_ROWS"=some (.int 12 df)) {eR:Tok} (bD:mg "MOST_WIDTH"=some (.int 40 eR)) (cb:Callee P w K mg base "is_within" 2 3 ax) (Fn:Fun K "is_go" "is_go" (top 27) f fd):FnF P w K mg base 3 f fd ["thing"] (fun ds=>aK (ja ax (aN 1 ds))):=by
 have hN:(["thing"]:List Str).Nodup:=by decide
 refine Fn.okF zR (k:=2) (g:=ja ax) fun cdv A outer s H E hr=>?_
 have hu:=hr.units
 have hh:=hr.hd
 exact (am (gX (pF (jE (ml hu (eE rfl bn (ac (aj at0) ag)) al) (fk (ml hu (aU (aj at0) al) (bb (l:=[103,111]) rfl (by decide)))))) (am (bu iV) aM) aM) (am (bu (hZ (bd cb hr (ac (aU (aj at0) al) (ac al (ac (nz (dI rfl bq) al) ag)))) (jt (bd cb hr (ac (aU (aj at0) al) (ac al (ac (dI rfl bD) ag))))))) aM))
theorem tN:FnScope ["thing"] ["thing"] (ai (top 28)):=⟨rfl,rfl,rfl,by decide +kernel,rfl,by decide +kernel,by decide +kernel⟩
theorem uw {dL fw:List D->R D} (aF:mg "isinstance"=none) (bH:mg "tuple"=none) (AN:Callee P w K mg base "is_say" 3 1 dL) (CH:Callee P w K mg base "is_go" 3 1 fw) (Fn:Fun K "is_order" "is_order" (top 28) f fd):FnF P w K mg base 4 f fd ["thing"] (fun ds=>aK (eM dL fw (aN 1 ds))):=by
 have hN:(["thing"]:List Str).Nodup:=by decide
 refine Fn.okF tN (k:=3) (g:=eM dL fw) fun cdv A outer s H E hr=>?_
 have hu:=hr.units
 have hh:=hr.hd
 exact (am (gX (gj (ie (jx aF (aj at0) bH))) (am (bu iV) aM) aM) (am (bu (Gb (bd AN hr (ac (aj at0) ag)) (Gb (bd CH hr (ac (aj at0) ag)) (jt (xH hu (aj at0) (cz (ac (bb (l:=[119,105,112,101]) rfl (by decide)) ag))))))) aM))
theorem nP:FnScope ["thing"] ["thing"] (ai (top 29)):=⟨rfl,rfl,rfl,by decide +kernel,rfl,by decide +kernel,by decide +kernel⟩
theorem nK {db:List D->R D} (mG:Ref "NoOrder" ar mg base) (vN:Callee P w K mg base "is_order" 4 1 db) (Fn:Fun K "check_order" "check_order" (top 29) f fd):FnF P w K mg base 5 f fd ["thing"] (fun ds=>aK (cU db ar (aN 1 ds))):=by
 have hN:(["thing"]:List Str).Nodup:=by decide
 refine Fn.okF nP (k:=4) (g:=cU db ar) fun cdv A outer s H E hr=>?_
 have hu:=hr.units
 have hh:=hr.hd
 exact (am (gX (gj (ie (bd vN hr (ac (aj at0) ag)))) (am (iC mG hh (bb (l:=[116,104,105,115,32,105,115,32,110,111,32,111,114,100,101,114]) rfl (by decide))) aM) aM) aM)
theorem gY:FnScope nZ10 ["screen","row","column"] (ai (top 30)):=⟨rfl,rfl,rfl,by decide +kernel,rfl,by decide +kernel,by decide +kernel⟩
theorem gW (Fn:Fun K "with_row_at_place" "with_row_at_place" (top 30) f fd):FnF P w K mg base 1 f fd ["screen","row","column"] (fun ds=>aK (bM (aN 5 ds))):=by
 have hN:(nZ10:List Str).Nodup:=by decide
 refine Fn.okF gY (k:=0) (g:=bM) fun cdv A outer s H E hr=>?_
 have hu:=hr.units
 have hh:=hr.hd
 exact (am (cN at3 hN (aU (aU (aj at0) al) al)) (am (cN at4 hN (bh (bh (du (aU (aj at0) al) dt (ig (aj at3))) (cz (ac (aj at1) ag))) (du (aU (aj at0) al) (ig (bh (aj at3) al)) dt))) (am (bu (cz (ac (aU (aj at0) al) (ac (aj at4) (ac (cz (ac (aj at3) (ac (aj at2) ag))) ag))))) aM)))
theorem qP:FnScope ["screen","text","row","begin","end"] ["screen","text"] (ai (top 31)):=⟨rfl,rfl,rfl,by decide +kernel,rfl,by decide +kernel,by decide +kernel⟩
theorem rS (bn:mg "len"=none) (gO:Ref "NoRoom" ak mg base) (cH:Callee P w K mg base "with_row_at_place" 1 3 au) (Fn:Fun K "after_say" "after_say" (top 31) f fd):FnF P w K mg base 2 f fd ["screen","text"] (fun ds=>aK (dP au ak (aN 5 ds))):=by
 have hN:(["screen","text","row","begin","end"]:List Str).Nodup:=by decide
 refine Fn.okF qP (k:=1) (g:=dP au ak) fun cdv A outer s H E hr=>?_
 have hu:=hr.units
 have hh:=hr.hd
 exact (am (cN at2 hN (aU (aU (aj at0) al) (aU (aU (aj at0) al) al))) (am (cN at3 hN (aU (aU (aj at0) al) al)) (am (cN at4 hN (bh (aj at3) (eE rfl bn (ac (aj at1) ag)))) (am (gX (xS (aj at4) (aU (aj at0) al)) (am (iC gO hh (bb (l:=[116,104,101,32,116,101,120,116,32,105,115,32,119,105,100,101,114,32,116,104,97,110,32,119,104,97,116,32,105,115,32,108,101,102,116,32,111,102,32,116,104,101,32,114,111,119]) rfl (by decide))) aM) aM) (am (bu (bd cH hr (ac (aj at0) (ac (bh (bh (du (aj at2) dt (ig (aj at3))) (aj at1)) (du (aj at2) (ig (aj at4)) dt)) (ac (aj at4) ag))))) aM)))))
theorem sF:FnScope ["screen","number","column"] ["screen","number","column"] (ai (top 32)):=⟨rfl,rfl,rfl,by decide +kernel,rfl,by decide +kernel,by decide +kernel⟩
theorem sH (bn:mg "len"=none) (gO:Ref "NoRoom" ak mg base) (Fn:Fun K "after_go" "after_go" (top 32) f fd):FnF P w K mg base 1 f fd ["screen","number","column"] (fun ds=>aK (eP ak (aN 3 ds))):=by
 have hN:(["screen","number","column"]:List Str).Nodup:=by decide
 refine Fn.okF sF (k:=0) (g:=eP ak) fun cdv A outer s H E hr=>?_
 have hu:=hr.units
 have hh:=hr.hd
 exact (am (gX (pF (jE (GL (aj at1) (eE rfl bn (ac (aU (aj at0) al) ag))) (fk (xS (aj at2) (aU (aj at0) al))))) (am (iC gO hh (bb (l:=[116,104,101,32,115,99,114,101,101,110,32,100,111,101,115,32,110,111,116,32,104,97,118,101,32,116,104,105,115,32,112,108,97,99,101]) rfl (by decide))) aM) aM) (am (bu (cz (ac (aU (aj at0) al) (ac (aU (aj at0) al) (ac (cz (ac (aj at1) (ac (aj at2) ag))) ag))))) aM))
theorem oV:FnScope ["screen","row","column"] ["screen"] (ai (top 33)):=⟨rfl,rfl,rfl,by decide +kernel,rfl,by decide +kernel,by decide +kernel⟩
theorem pC (cH:Callee P w K mg base "with_row_at_place" 1 3 au) (Fn:Fun K "after_wipe" "after_wipe" (top 33) f fd):FnF P w K mg base 2 f fd ["screen"] (fun ds=>aK (dk au (aN 3 ds))):=by
 have hN:(["screen","row","column"]:List Str).Nodup:=by decide
 refine Fn.okF oV (k:=1) (g:=dk au) fun cdv A outer s H E hr=>?_
 have hu:=hr.units
 have hh:=hr.hd
 exact (am (cN at1 hN (aU (aU (aj at0) al) (aU (aU (aj at0) al) al))) (am (cN at2 hN (aU (aU (aj at0) al) al)) (am (bu (bd cH hr (ac (aj at0) (ac (DT (du (aj at1) dt (ig (aj at2))) (ac (aU (aj at0) al) ag)) (ac (aj at2) ag))))) aM)))
theorem nJ:FnScope ["screen","order"] ["screen","order"] (ai (top 34)):=⟨rfl,rfl,rfl,by decide +kernel,rfl,by decide +kernel,by decide +kernel⟩
theorem nU {bK bS bA:List D->R D} (ux:Callee P w K mg base "after_say" 2 2 bK) (wH:Callee P w K mg base "after_go" 2 3 bS) (rN:Callee P w K mg base "after_wipe" 2 1 bA) (Fn:Fun K "after_order" "after_order" (top 34) f fd):FnF P w K mg base 3 f fd ["screen","order"] (fun ds=>aK (cT bK bS bA (aN 2 ds))):=by
 have hN:(["screen","order"]:List Str).Nodup:=by decide
 refine Fn.okF nJ (k:=2) (g:=cT bK bS bA) fun cdv A outer s H E hr=>?_
 have hu:=hr.units
 have hh:=hr.hd
 exact (am (gX (fR hu (aU (aj at1) al) (bb (l:=[115,97,121]) rfl (by decide))) (am (bu (bd ux hr (ac (aj at0) (ac (aU (aj at1) al) ag)))) aM) aM) (am (gX (fR hu (aU (aj at1) al) (bb (l:=[103,111]) rfl (by decide))) (am (bu (bd wH hr (ac (aj at0) (ac (aU (aj at1) al) (ac (aU (aj at1) al) ag))))) aM) aM) (am (bu (bd rN hr (ac (aj at0) ag))) aM)))
theorem DR:FnScope ["screen","order"] ["screen","order"] (ai (top 35)):=⟨rfl,rfl,rfl,by decide +kernel,rfl,by decide +kernel,by decide +kernel⟩
theorem CV {bv br:List D->R D} (cC:Callee P w K mg base "check_screen" 5 1 aw) (qa:Callee P w K mg base "check_order" 5 1 bv) (qj:Callee P w K mg base "after_order" 5 2 br) (Fn:Fun K "done" "done" (top 35) f fd):FnF P w K mg base 6 f fd ["screen","order"] (fun ds=>aK (kW aw bv br (aN 2 ds))):=by
 have hN:(["screen","order"]:List Str).Nodup:=by decide
 refine Fn.okF DR (k:=5) (g:=kW aw bv br) fun cdv A outer s H E hr=>?_
 have hu:=hr.units
 have hh:=hr.hd
 exact (am (vG (bd cC hr (ac (aj at0) ag))) (am (vG (bd qa hr (ac (aj at1) ag))) (am (bu (bd qj hr (ac (aj at0) (ac (aj at1) ag)))) aM)))
theorem oZ:FnScope ["order"] ["order"] (ai (top 36)):=⟨rfl,rfl,rfl,by decide +kernel,rfl,by decide +kernel,by decide +kernel⟩
theorem pI (bn:mg "len"=none) {qz:Tok} (ee:mg "GO_COST"=some (.int 2 qz)) {mB:Tok} (cF:mg "WIPE_COST"=some (.int 1 mB)) (Fn:Fun K "order_cost" "order_cost" (top 36) f fd):FnF P w K mg base 1 f fd ["order"] (fun ds=>aK (eY (aN 1 ds))):=by
 have hN:(["order"]:List Str).Nodup:=by decide
 refine Fn.okF oZ (k:=0) (g:=eY) fun cdv A outer s H E hr=>?_
 have hu:=hr.units
 have hh:=hr.hd
 exact (am (gX (fR hu (aU (aj at0) al) (bb (l:=[115,97,121]) rfl (by decide))) (am (bu (eE rfl bn (ac (aU (aj at0) al) ag))) aM) aM) (am (gX (fR hu (aU (aj at0) al) (bb (l:=[103,111]) rfl (by decide))) (am (bu (dI rfl ee)) aM) aM) (am (bu (dI rfl cF)) aM)))
theorem xv:FnScope ["self","order","screen"] ["self","order"] (ai (aY (top 42) 4)):=⟨rfl,rfl,rfl,by decide +kernel,rfl,by decide +kernel,by decide +kernel⟩
theorem xq {ik bE:List D->R D} (EM:Callee P w K mg base "done" 6 2 ik) (rC:Callee P w K mg base "order_cost" 6 1 bE) (aV:CF K ae [0,1]) (cL:MCallee P w K mg base ae "sheet" 6 0 aR) (fh:MCallee P w K mg base ae "step_to" 6 3 aZ) (dX:MCallee P w K mg base ae "spent" 6 0 aW) (ok:ce ae (oB ae aR aZ aW ik bE) 3 F) (Fn:Fun K "do" "Pad.do" (aY (top 42) 4) f fd):FnM P w K mg base 7 f fd ["self","order"] ae F:=by
 have hN:(["self","order","screen"]:List Str).Nodup:=by decide
 refine Fn.okM xv ok (k:=6) fun cdv A outer s H E hr=>?_
 have hu:=hr.units
 have hh:=hr.hd
 exact (am (cN at2 hN (bd EM hr (ac (dm 0 aV cL hr) (ac (aj at1) ag)))) (am (zp 0 aV fh hr (ac (bb (l:=[100,111]) rfl (by decide)) (ac (aj at2) (ac (bd rC hr (ac (aj at1) ag)) ag)))) (am (xZ (dm 0 aV dX hr)) aM)))
theorem wD:FnScope ["_law_pad","_law_deed_here"] ["_law_pad","_law_deed_here"] (ai (top 54)):=⟨rfl,rfl,rfl,by decide +kernel,rfl,by decide +kernel,by decide +kernel⟩
theorem wN {cM gN:MF} (iu:Told P w K mg base "_law_told" 9 8 az) (aV:CF K ae [0,1]) (pA:MCallee P w K mg base ae "scroll" 7 1 cM) (xL:MCallee P w K mg base ae "do" 7 1 gN) (gA:ToldOk P w K mg base "_law_told" 9 8) (ok:ce ae (im ae cM gN az) 2 F) (LB:LamB K mg base "_law_did" fd Pt) (Fn:Fun K "_law_did" "_law_did" (top 54) f fd):FnM P w K mg base 10 f fd ["_law_pad","_law_deed_here"] ae F:=by
 have hN:(["_law_pad","_law_deed_here"]:List Str).Nodup:=by decide
 refine Fn.okMT LB wD ok (k:=9) fun cdv A outer s H E hr la=>?_
 have hu:=hr.units
 have hh:=hr.hd
 exact (am (Hs (BC 0 (C:=ae) iu gA hr la (N':=["_law_pad","_law_deed_here"]) (ix:=[1]) Bv (fun cl f cd A outer s H E hr=>by have hu:=hr.units;exact (JJ (fR hu (aU (yv at1) al) (bb (l:=[115,99,114,111,108,108]) rfl (by decide))) (BJ 0 aV pA hr (ac (aU (yv at1) al) ag)) (BJ 0 aV xL hr (ac (aU (yv at1) al) ag)))))) aM)
theorem tP:FnScope ["_law_pad"] ["_law_pad"] (ai (top 55)):=⟨rfl,rfl,rfl,by decide +kernel,rfl,by decide +kernel,by decide +kernel⟩
theorem sN (aV:CF K ae [0,1]) (dX:MCallee P w K mg base ae "spent" 1 0 aW) (cL:MCallee P w K mg base ae "sheet" 1 0 aR) (ok:ce ae (kq ae aW aR) 1 F) (Fn:Fun K "_law_seen" "_law_seen" (top 55) f fd):FnM P w K mg base 2 f fd ["_law_pad"] ae F:=by
 have hN:(["_law_pad"]:List Str).Nodup:=by decide
 refine Fn.okM tP ok (k:=1) fun cdv A outer s H E hr=>?_
 have hu:=hr.units
 have hh:=hr.hd
 exact (am (bu (cz (ac (dm 0 aV cL hr) (ac (dm 0 aV dX hr) ag)))) aM)
theorem uq:FnScope ["self","state"] ["self"] (ai (aY (top 42) 7)):=⟨rfl,rfl,rfl,by decide +kernel,rfl,by decide +kernel,by decide +kernel⟩
theorem sB (bn:mg "len"=none) (gT:Ref "NoBack" ah mg base) (aV:CF K ae [0,1]) (ok:ce ae (kD ae ah) 2 F) (Fn:Fun K "back" "Pad.back" (aY (top 42) 7) f fd):FnM P w K mg base 1 f fd ["self"] ae F:=by
 have hN:(["self","state"]:List Str).Nodup:=by decide
 refine Fn.okM uq ok (k:=0) fun cdv A outer s H E hr=>?_
 have hu:=hr.units
 have hh:=hr.hd
 exact (am (gX (fR hu (kP 0 0 aV (by decide) rfl bn) al) (am (iC gT hh (bb (l:=[116,104,101,114,101,32,105,115,32,110,111,32,115,116,101,112,32,116,104,97,116,32,99,97,110,32,98,101,32,116,97,107,101,110,32,98,97,99,107]) rfl (by decide))) aM) aM) (am (BI 0 0 1 aV (by decide) hN) (am (yE 0 1 aV (by decide) (aj at1)) (am (xZ (aU (aj at1) al)) aM))))
theorem pw:FnScope ["self"] ["self"] (ai (aY (top 42) 9)):=⟨rfl,rfl,rfl,by decide +kernel,rfl,by decide +kernel,by decide +kernel⟩
theorem pJ (bn:mg "len"=none) (aV:CF K ae [0,1]) (ok:ce ae (hX ae) 1 F) (Fn:Fun K "counts" "Pad.counts" (aY (top 42) 9) f fd):FnM P w K mg base 1 f fd ["self"] ae F:=by
 have hN:(["self"]:List Str).Nodup:=by decide
 refine Fn.okM pw ok (k:=0) fun cdv A outer s H E hr=>?_
 have hu:=hr.units
 have hh:=hr.hd
 exact (am (bu (cz (ac (nz (kP 0 0 aV (by decide) rfl bn) al) (ac (kP 0 1 aV (by decide) rfl bn) ag)))) aM)
theorem rQ:FnScope ["self","state"] ["self"] (ai (aY (top 42) 8)):=⟨rfl,rfl,rfl,by decide +kernel,rfl,by decide +kernel,by decide +kernel⟩
theorem qO (bn:mg "len"=none) (gT:Ref "NoBack" ah mg base) (aV:CF K ae [0,1]) (ok:ce ae (iY ae ah) 2 F) (Fn:Fun K "forth" "Pad.forth" (aY (top 42) 8) f fd):FnM P w K mg base 1 f fd ["self"] ae F:=by
 have hN:(["self","state"]:List Str).Nodup:=by decide
 refine Fn.okM rQ ok (k:=0) fun cdv A outer s H E hr=>?_
 have hu:=hr.units
 have hh:=hr.hd
 exact (am (gX (fR hu (kP 0 1 aV (by decide) rfl bn) al) (am (iC gT hh (bb (l:=[116,104,101,114,101,32,105,115,32,110,111,32,115,116,101,112,32,116,104,97,116,32,99,97,110,32,98,101,32,100,111,110,101,32,97,103,97,105,110]) rfl (by decide))) aM) aM) (am (BI 0 1 1 aV (by decide) hN) (am (yE 0 0 aV (by decide) (aj at1)) (am (xZ (aU (aj at1) al)) aM))))
theorem td:FnScope ["self","screen"] ["self","screen"] (ai (aY (top 42) 0)):=⟨rfl,rfl,rfl,by decide +kernel,rfl,by decide +kernel,by decide +kernel⟩
theorem tJ {Bc:Tok} (ni:mg "MADE"=some (.str "made" Bc)) (cC:Callee P w K mg base "check_screen" 5 1 aw) (aV:CF K ae [0,1]) (ok:ce ae (kv ae aw) 2 F) (Fn:Fun K "__init__" "Pad.__init__" (aY (top 42) 0) f fd):FnM P w K mg base 6 f fd ["self","screen"] ae F:=by
 have hN:(["self","screen"]:List Str).Nodup:=by decide
 refine Fn.okM td ok (k:=5) fun cdv A outer s H E hr=>?_
 have hu:=hr.units
 have hh:=hr.hd
 exact (am (vG (bd cC hr (ac (aj at1) ag))) (am (rG 0 0 aV (by decide) (kI (ac (cz (ac (zO (l:=[109,97,100,101]) rfl ni rfl (by decide)) (ac (aj at1) (ac al ag)))) ag))) (am (rG 0 1 aV (by decide) (kI ag)) aM)))
theorem tO:FnScope ["self","other"] ["self"] (ai (aY (top 42) 10)):=⟨rfl,rfl,rfl,by decide +kernel,rfl,by decide +kernel,by decide +kernel⟩
theorem tZ (nY:mg "list"=none) (aV:CF K ae [0,1]) (cL:MCallee P w K mg base ae "sheet" 7 0 aR) (yI:MkC P w K mg base ae "Pad" 6 1 aE) {F:TF} (ok:∀ p fs fs',F fs=some fs'->∀ q:Addr×Unit,gm ae aR aE q (ci false ae p fs 2 [])=some (q.1,fs')) (Fn:Fun K "twin" "Pad.twin" (aY (top 42) 10) f fd):FnT P w K mg base 8 f fd ["self"] ae F:=by
 have hN:(["self","other"]:List Str).Nodup:=by decide
 refine Fn.okT tO (j:=1) ok (k:=7) fun cdv A outer s H E hr=>?_
 have hu:=hr.units
 have hh:=hr.hd
 have h_2:PSF (cS (CXo P w) P w K mg base ["self","other"] "Pad.twin" (ai (aY (top 42) 10)) f cdv A outer s H E) ((bi (aY (top 42) 10)).getD 2 (.Pass ⟨0,0,0,0⟩)) (jl ae 1 1 (nW ae 0 1)):=(rG 1 1 aV (by decide) (nh 0 1 aV (by decide) rfl nY))
 have h_1:PSF (cS (CXo P w) P w K mg base ["self","other"] "Pad.twin" (ai (aY (top 42) 10)) f cdv A outer s H E) ((bi (aY (top 42) 10)).getD 1 (.Pass ⟨0,0,0,0⟩)) (jl ae 1 0 (nW ae 0 0)):=(rG 1 0 aV (by decide) (nh 0 0 aV (by decide) rfl nY))
 exact (EH 1 yI hr hN (ac (dm 0 aV cL hr) ag) (yC h_1 (yC h_2 Fv)))
theorem Gf:FnScope nZ0 ["_law_script"] (ai (top 56)):=⟨rfl,rfl,rfl,by decide +kernel,rfl,by decide +kernel,by decide +kernel⟩
theorem FX {T_Pad_twin:TF} {aH aA:MF} {aG ay aC:MF} {aD aB av:List D->R D} (jf:mg "int"=none) (bn:mg "len"=none) (bI:mg "range"=none) (uu:Callee P w K mg base "_law_some" 10 2 aD) (lF:Callee P w K mg base "_law_deed" 10 3 aB) (iT:Callee P w K mg base "_law_behind" 10 2 av) (iu:Told P w K mg base "_law_told" 10 9 az) (aV:CF K ae [0,1]) (oM:MCallee P w K mg base ae "back" 10 0 aG) (fQ:MCallee P w K mg base ae "counts" 10 0 ay) (lB:MCallee P w K mg base ae "forth" 10 0 aC) (tu:TCallee P w K mg base ae "twin" 10 T_Pad_twin) (yI:MkC P w K mg base ae "Pad" 9 1 aE) (uo:MCallee P w K mg base ae "back" 8 0 aG) (oA:CalleeM P w K mg base ae "_law_did" 10 1 aH) (em:CalleeM P w K mg base ae "_law_seen" 10 0 aA) (gA:ToldOk P w K mg base "_law_told" 10 9) {gr:List D->R D} (hg:∀ ds:List D,ds.length=1->gr ds=.no\/∀ q,aK (mK ae T_Pad_twin aH aA aG ay aC aE az aD aB av q (aN 14 ds))=gr ds) (LB:LamB K mg base "law" fd Pt) (Fn:Fun K "law" "law" (top 56) f fd):FnF P w K mg base 11 f fd ["_law_script"] gr:=by
 have hN:(nZ0:List Str).Nodup:=by decide
 refine Fn.okAT LB Gf (k:=10) (g:=mK ae T_Pad_twin aH aA aG ay aC aE az aD aB av) hg fun cdv A outer s H E hr la=>?_
 have hu:=hr.units
 have hh:=hr.hd
 have h_0:PSF (cS (CXo P w) P w K mg base nZ0 "law" (ai (top 56)) f cdv A outer s H E) ((bi (top 56)).getD 0 (.Pass ⟨0,0,0,0⟩)) (vC ae T_Pad_twin aH aA aG ay aC aE az aD aB av):=(cN at1 hN (cz (ac (bd uu hr (ac (aj at0) (ac al ag))) (ac al ag))))
 have h_2:PSF (cS (CXo P w) P w K mg base nZ0 "law" (ai (top 56)) f cdv A outer s H E) ((bi (top 56)).getD 2 (.Pass ⟨0,0,0,0⟩)) (qC ae T_Pad_twin aH aA aG ay aC aE az aD aB av):=(wk PassesOwn.leaving rfl (eV rfl bI (ac al ag)) (dM 4 hN) (am (cN at5 hN (bd lF hr (ac (aj at0) (ac (bh al (fH al (aj at4))) (ac (aU (aU (aj at3) (wn al)) al) ag))))) (am (uM (bd iT hr (ac (aU (aj at3) (wn al)) (ac (aj at5) ag))) rfl (cR 6 hN (cR 7 hN kQ))) (am (Fc (Bd 2 oA hr (ac (aj at5) ag))) (am (cN at3 hN (bh (aj at3) (fH (mT (kI (ac (aj at6) ag))) (sZ rfl jf (ac (D7 hu (aj at7) (bb (l:=[110,111,32,114,111,111,109]) rfl (by decide))) ag))))) aM)))))
 have h_3:PSF (cS (CXo P w) P w K mg base nZ0 "law" (ai (top 56)) f cdv A outer s H E) ((bi (top 56)).getD 3 (.Pass ⟨0,0,0,0⟩)) (uT ae T_Pad_twin aH aA aG ay aC aE az aD aB av):=(cN at8 hN (nz (eE rfl bn (ac (aj at3) ag)) al))
 have h_4:PSF (cS (CXo P w) P w K mg base nZ0 "law" (ai (top 56)) f cdv A outer s H E) ((bi (top 56)).getD 4 (.Pass ⟨0,0,0,0⟩)) (vi ae T_Pad_twin aH aA aG ay aC aE az aD aB av):=(gX (xS (aj at8) al) (am (kO 2 aV oM hr) aM) aM)
 have h_6:PSF (cS (CXo P w) P w K mg base nZ0 "law" (ai (top 56)) f cdv A outer s H E) ((bi (top 56)).getD 6 (.Pass ⟨0,0,0,0⟩)) (vh ae T_Pad_twin aH aA aG ay aC aE az aD aB av):=(gX (pF (jE (ml hu (dm 9 aV fQ hr) (dm 2 aV fQ hr)) (fk (ml hu (mX 9 em hr ag) (mX 2 em hr ag))))) (am (bu iV) aM) aM)
 have h_7:PSF (cS (CXo P w) P w K mg base nZ0 "law" (ai (top 56)) f cdv A outer s H E) ((bi (top 56)).getD 7 (.Pass ⟨0,0,0,0⟩)) (pS ae T_Pad_twin aH aA aG ay aC aE az aD aB av):=(E1 2 9 10 11 PassesOwn.leaving rfl hN (am (gX (xS (aj at8) al) (am (kO 10 aV lB hr) aM) aM) (am (Hu 12 13 rfl hN (ac (aU (aj at3) (wn al)) (ac (aj at8) ag))) (am (gX (ml hu (mX 10 em hr ag) (aj Gu)) (am (bu iV) aM) aM) (am (wk PassesOwn.leaving rfl (eV rfl bI (ac al ag)) (dM 4 hN) (am (cN at5 hN (bd lF hr (ac (aj at0) (ac (bh (aj Jh) (fH al (aj at4))) (ac (aU (aj Gu) al) ag))))) (am (uM (bd iT hr (ac (aj Gu) (ac (aj at5) ag))) rfl (cR 12 hN (cR 7 hN kQ))) (am (Eb (Em hu (Bd 10 oA hr (ac (aj at5) ag)) (aj at7)) (am (bu iV) aM) aM) (am (cN EW hN (bh (aj EW) (sZ rfl jf (ac (D7 hu (aj at7) (bb (l:=[110,111,32,114,111,111,109]) rfl (by decide))) ag)))) aM))))) (am (wk PassesOwn.leaving rfl (eV rfl bI (ac (aj EW) ag)) (dM 4 hN) (am (kO 10 aV oM hr) aM)) (am (Eb (Fr (ET (HA (ml hu (mX 10 em hr ag) (aj at1))) (DP (Em hu (BC 10 (C:=ae) iu gA hr la (N':=["_law_one"]) (ix:=[]) Bv (fun cl f cd A outer s H E hr=>by have hu:=hr.units;exact (Ci 0 aV uo hr))) (bb (l:=[110,111,32,98,97,99,107]) rfl (by decide)))))) (am (bu iV) aM) aM) (am (wk PassesOwn.leaving rfl (eV rfl bI (ac (aj EW) ag)) (dM 4 hN) (am (kO 10 aV lB hr) aM)) (am (gX (pF (jE (ml hu (mX 10 em hr ag) (aj Gu)) (fk (ml hu (dm 10 aV fQ hr) (cz (ac (aj EW) (ac al ag))))))) (am (bu iV) aM) aM) aM)))))))))
 have h_8:PSF (cS (CXo P w) P w K mg base nZ0 "law" (ai (top 56)) f cdv A outer s H E) ((bi (top 56)).getD 8 (.Pass ⟨0,0,0,0⟩)) (yT ae T_Pad_twin aH aA aG ay aC aE az aD aB av):=(bu iV)
 exact (oT h_0 (B3 2 3 yI hr rfl hN (ac (aU (aj at1) al) ag) (mT (kI (ac (aj at1) ag))) (oT h_2 (oT h_3 (oT h_4 (BN 2 9 aV tu hr hN (B8 (am h_6 (am h_7 (am h_8 aM))))))))))
end
theorem EI {w:World} {K:PySem.W.Frag} {mg:Str->Option Value} {fa:Addr} (hfa:mg "law"=some (.ref fa)) (dv:mg "ValueError"=none) (qN:mg "all"=none) (qQ:mg "bool"=none) (jf:mg "int"=none) (aF:mg "isinstance"=none) (bn:mg "len"=none) (nY:mg "list"=none) (bI:mg "range"=none) (xx:mg "str"=none) (bH:mg "tuple"=none) (ee:∃ t,mg "GO_COST"=some (.int 2 t)) (ni:∃ t,mg "MADE"=some (.str "made" t)) (bq:∃ t,mg "MOST_ROWS"=some (.int 12 t)) (cJ:∃ t,mg "MOST_SAID"=some (.int 40 t)) (bD:∃ t,mg "MOST_WIDTH"=some (.int 40 t)) (cF:∃ t,mg "WIPE_COST"=some (.int 1 t)) (pM:PySem.W.nsIn K mainGlobals "NoBack"=some (some (.ref ah))) (oY:PySem.W.excIn K ah [.type "ValueError",.type "Exception",.type "BaseException",.type "object"] "ValueError.__new__"=true) (jP:PySem.W.nsIn K mainGlobals "NoNumber"=some (some (.ref aq))) (jK:PySem.W.excIn K aq [.type "ValueError",.type "Exception",.type "BaseException",.type "object"] "ValueError.__new__"=true) (lP:PySem.W.nsIn K mainGlobals "NoOrder"=some (some (.ref ar))) (mw:PySem.W.excIn K ar [.type "ValueError",.type "Exception",.type "BaseException",.type "object"] "ValueError.__new__"=true) (pB:PySem.W.nsIn K mainGlobals "NoRoom"=some (some (.ref ak))) (oS:PySem.W.excIn K ak [.type "ValueError",.type "Exception",.type "BaseException",.type "object"] "ValueError.__new__"=true) (jH:PySem.W.nsIn K mainGlobals "NoScreen"=some (some (.ref af))) (jR:PySem.W.excIn K af [.type "ValueError",.type "Exception",.type "BaseException",.type "object"] "ValueError.__new__"=true) (DU:PySem.W.nsIn K mainGlobals "Pad"=some (some (.ref ae))) (aV:CF K ae [0,1]) (nd:[af,ar,ak,aq,aI,aQ,aP,ah].Nodup) (Er:Errs K mg [ah,aq,ar,ak,af] [("NoScreen",af),("NoOrder",ar),("NoRoom",ak),("NoNumber",aq),("NoTable",aI),("NoTask",aQ),("NoText",aP),("NoBack",ah)])
 (h44:∃ f fd,Fun K "_law_cell" "_law_cell" (top 44) f fd/\mg "_law_cell"=some (.ref f))
 (h45:∃ f fd,Fun K "_law_pick" "_law_pick" (top 45) f fd/\mg "_law_pick"=some (.ref f))
 (h46:∃ f fd,Fun K "_law_row" "_law_row" (top 46) f fd/\mg "_law_row"=some (.ref f))
 (h47:∃ f fd,Fun K "_law_screen" "_law_screen" (top 47) f fd/\mg "_law_screen"=some (.ref f))
 (h48:∃ f fd,Fun K "_law_some" "_law_some" (top 48) f fd/\mg "_law_some"=some (.ref f))
 (h52:∃ f fd,Fun K "_law_deed" "_law_deed" (top 52) f fd/\mg "_law_deed"=some (.ref f))
 (h49:∃ f fd,Fun K "_law_step" "_law_step" (top 49) f fd/\mg "_law_step"=some (.ref f))
 (h53:∃ f fd,Fun K "_law_behind" "_law_behind" (top 53) f fd/\mg "_law_behind"=some (.ref f))
 (h50:∃ f fd,Fun K "_law_class" "_law_class" (top 50) f fd/\mg "_law_class"=some (.ref f))
 (h51:∃ f fd,Fun K "_law_told" "_law_told" (top 51) f fd/\mg "_law_told"=some (.ref f))
 (h12:∃ f fd,Fun K "is_whole" "is_whole" (top 12) f fd/\mg "is_whole"=some (.ref f))
 (h13:∃ f fd,Fun K "is_within" "is_within" (top 13) f fd/\mg "is_within"=some (.ref f))
 (h14:∃ f fd,Fun K "is_plain" "is_plain" (top 14) f fd/\mg "is_plain"=some (.ref f))
 (h18:∃ f fd,Fun K "are_full_rows" "are_full_rows" (top 18) f fd/\mg "are_full_rows"=some (.ref f))
 (h19:∃ f fd,Fun K "is_place" "is_place" (top 19) f fd/\mg "is_place"=some (.ref f))
 (h20:∃ f fd,Fun K "is_screen" "is_screen" (top 20) f fd/\mg "is_screen"=some (.ref f))
 (h21:∃ f fd,Fun K "check_screen" "check_screen" (top 21) f fd/\mg "check_screen"=some (.ref f))
 (h38:∃ f fd,Fun K "row_or_blank" "row_or_blank" (top 38) f fd/\mg "row_or_blank"=some (.ref f))
 (h39:∃ f fd,Fun K "scrolled" "scrolled" (top 39) f fd/\mg "scrolled"=some (.ref f))
 (h42_2:∃ f fd,Fun K "spent" "Pad.spent" (aY (top 42) 2) f fd/\Meth K ae "spent" f)
 (h42_3:∃ f fd,Fun K "step_to" "Pad.step_to" (aY (top 42) 3) f fd/\Meth K ae "step_to" f)
 (h42_1:∃ f fd,Fun K "sheet" "Pad.sheet" (aY (top 42) 1) f fd/\Meth K ae "sheet" f)
 (h42_5:∃ f fd,Fun K "scroll" "Pad.scroll" (aY (top 42) 5) f fd/\Meth K ae "scroll" f)
 (h26:∃ f fd,Fun K "is_say" "is_say" (top 26) f fd/\mg "is_say"=some (.ref f))
 (h27:∃ f fd,Fun K "is_go" "is_go" (top 27) f fd/\mg "is_go"=some (.ref f))
 (h28:∃ f fd,Fun K "is_order" "is_order" (top 28) f fd/\mg "is_order"=some (.ref f))
 (h29:∃ f fd,Fun K "check_order" "check_order" (top 29) f fd/\mg "check_order"=some (.ref f))
 (h30:∃ f fd,Fun K "with_row_at_place" "with_row_at_place" (top 30) f fd/\mg "with_row_at_place"=some (.ref f))
 (h31:∃ f fd,Fun K "after_say" "after_say" (top 31) f fd/\mg "after_say"=some (.ref f))
 (h32:∃ f fd,Fun K "after_go" "after_go" (top 32) f fd/\mg "after_go"=some (.ref f))
 (h33:∃ f fd,Fun K "after_wipe" "after_wipe" (top 33) f fd/\mg "after_wipe"=some (.ref f))
 (h34:∃ f fd,Fun K "after_order" "after_order" (top 34) f fd/\mg "after_order"=some (.ref f))
 (h35:∃ f fd,Fun K "done" "done" (top 35) f fd/\mg "done"=some (.ref f))
 (h36:∃ f fd,Fun K "order_cost" "order_cost" (top 36) f fd/\mg "order_cost"=some (.ref f))
 (h42_4:∃ f fd,Fun K "do" "Pad.do" (aY (top 42) 4) f fd/\Meth K ae "do" f)
 {Pt54:Addr} (h54:∃ f fd,(Fun K "_law_did" "_law_did" (top 54) f fd/\mg "_law_did"=some (.ref f))/\LamDef K mg fd Pt54)
 (h55:∃ f fd,Fun K "_law_seen" "_law_seen" (top 55) f fd/\mg "_law_seen"=some (.ref f))
 (h42_7:∃ f fd,Fun K "back" "Pad.back" (aY (top 42) 7) f fd/\Meth K ae "back" f)
 (h42_9:∃ f fd,Fun K "counts" "Pad.counts" (aY (top 42) 9) f fd/\Meth K ae "counts" f)
 (h42_8:∃ f fd,Fun K "forth" "Pad.forth" (aY (top 42) 8) f fd/\Meth K ae "forth" f)
 (h42_0:∃ f fd,Fun K "__init__" "Pad.__init__" (aY (top 42) 0) f fd/\Mk K ae f)
 (h42_10:∃ f fd,Fun K "twin" "Pad.twin" (aY (top 42) 10) f fd/\Meth K ae "twin" f)
 {Pt56:Addr} (h56:∃ f fd,(Fun K "law" "law" (top 56) f fd/\mg "law"=some (.ref f))/\LamDef K mg fd Pt56) :
  ∃ fd:FuncData,(∀ (s:Shared) (u:Value),BindsTo s fd ⟨[u],[]⟩ [("_law_script",u)])/\∀ base:Heap,K.In base->base.Ns mainGlobals mg->(∀ pq∈([(Pt54,"_law_did"++".<locals>."++"<lambda>"),(Pt56,"law"++".<locals>."++"<lambda>")]:List (Addr×Str)),base.BuiltinsAt mg pq.1/\xk base pq.1 pq.2)->FnF P w K mg base 11 fa fd ["_law_script"] zH:=by
 obtain ⟨qz,ee⟩:=ee
 obtain ⟨Bc,ni⟩:=ni
 obtain ⟨df,bq⟩:=bq
 obtain ⟨nD,cJ⟩:=cJ
 obtain ⟨eR,bD⟩:=bD
 obtain ⟨mB,cF⟩:=cF
 obtain ⟨f44,d44,F44⟩:=h44
 obtain ⟨f45,d45,F45⟩:=h45
 obtain ⟨f46,d46,F46⟩:=h46
 obtain ⟨f47,d47,F47⟩:=h47
 obtain ⟨f48,d48,F48⟩:=h48
 obtain ⟨f52,d52,F52⟩:=h52
 obtain ⟨f49,d49,F49⟩:=h49
 obtain ⟨f53,d53,F53⟩:=h53
 obtain ⟨f50,d50,F50⟩:=h50
 obtain ⟨f51,d51,F51⟩:=h51
 obtain ⟨f12,d12,F12⟩:=h12
 obtain ⟨f13,d13,F13⟩:=h13
 obtain ⟨f14,d14,F14⟩:=h14
 obtain ⟨f18,d18,F18⟩:=h18
 obtain ⟨f19,d19,F19⟩:=h19
 obtain ⟨f20,d20,F20⟩:=h20
 obtain ⟨f21,d21,F21⟩:=h21
 obtain ⟨f38,d38,F38⟩:=h38
 obtain ⟨f39,d39,F39⟩:=h39
 obtain ⟨f42_2,d42_2,F42_2⟩:=h42_2
 obtain ⟨f42_3,d42_3,F42_3⟩:=h42_3
 obtain ⟨f42_1,d42_1,F42_1⟩:=h42_1
 obtain ⟨f42_5,d42_5,F42_5⟩:=h42_5
 obtain ⟨f26,d26,F26⟩:=h26
 obtain ⟨f27,d27,F27⟩:=h27
 obtain ⟨f28,d28,F28⟩:=h28
 obtain ⟨f29,d29,F29⟩:=h29
 obtain ⟨f30,d30,F30⟩:=h30
 obtain ⟨f31,d31,F31⟩:=h31
 obtain ⟨f32,d32,F32⟩:=h32
 obtain ⟨f33,d33,F33⟩:=h33
 obtain ⟨f34,d34,F34⟩:=h34
 obtain ⟨f35,d35,F35⟩:=h35
 obtain ⟨f36,d36,F36⟩:=h36
 obtain ⟨f42_4,d42_4,F42_4⟩:=h42_4
 obtain ⟨f54,d54,F54,L54⟩:=h54
 obtain ⟨f55,d55,F55⟩:=h55
 obtain ⟨f42_7,d42_7,F42_7⟩:=h42_7
 obtain ⟨f42_9,d42_9,F42_9⟩:=h42_9
 obtain ⟨f42_8,d42_8,F42_8⟩:=h42_8
 obtain ⟨f42_0,d42_0,F42_0⟩:=h42_0
 obtain ⟨f42_10,d42_10,F42_10⟩:=h42_10
 obtain ⟨f56,d56,F56,L56⟩:=h56
 have e:fa=f56:=by
  have:=hfa.symm.trans F56.2
  injection this with this
  injection this
 subst e
 refine ⟨d56,fun s u=>?_,fun base kb nb hT=>?_⟩
 ·obtain ⟨oc,od,kV,doc,pm,an,cdv,ct,osl,rfl,lk,hcd⟩:=F56.1.ex
  exact .of_eq rfl
 ·have gT:=qY (x:="NoBack") kb nb pM oY
  have jX:=qY (x:="NoNumber") kb nb jP jK
  have mG:=qY (x:="NoOrder") kb nb lP mw
  have gO:=qY (x:="NoRoom") kb nb pB oS
  have jS:=qY (x:="NoScreen") kb nb jH jR
  have D5:=PySem.W.mg_of kb nb DU
  have L54:LamB K mg base "_law_did" d54 Pt54:=⟨L54,(hT _ (.head _)).2,(hT _ (.head _)).1⟩
  have L56:LamB K mg base "law" d56 Pt56:=⟨L56,(hT _ (.tail _ (.head _))).2,(hT _ (.tail _ (.head _))).1⟩
  have k44:=F44.1.callee F44.2 ((uC (P:=P) (w:=w) (base:=base) bn F44.1).to ur) fun _ _ _ _ _ _ us hl=>by obtain ⟨a,b,rfl⟩:=uF hl;rfl
  have k45:=F45.1.callee F45.2 ((uf k44 F45.1).to sR) fun _ _ _ _ _ _ us hl=>by obtain ⟨a,b,c,rfl⟩:=CI hl;rfl
  have k46:=F46.1.callee F46.2 ((vS bI k45 F46.1).to wM) fun _ _ _ _ _ _ us hl=>by obtain ⟨a,b,c,rfl⟩:=CI hl;rfl
  have k47:=F47.1.callee F47.2 ((pK bI bH k46 (k45.mono 3) F47.1).to pD) fun _ _ _ _ _ _ us hl=>by obtain ⟨a,b,c,d,rfl⟩:=IL hl;rfl
  have k48:=F48.1.callee F48.2 ((sW (k45.mono 4) k47 F48.1).to ud) fun _ _ _ _ _ _ us hl=>by obtain ⟨a,b,rfl⟩:=uF hl;rfl
  have k52:=F52.1.callee F52.2 ((sX bn bI k45 F52.1).to sY) fun _ _ _ _ _ _ us hl=>by obtain ⟨a,b,c,rfl⟩:=CI hl;rfl
  have k49:=F49.1.callee F49.2 ((tQ (P:=P) (w:=w) (base:=base) bn F49.1).to tW) fun _ _ _ _ _ _ us hl=>by obtain ⟨a,b,rfl⟩:=uF hl;rfl
  have k53:=F53.1.callee F53.2 ((qk jf bn bI bH k49 F53.1).to qd) fun _ _ _ _ _ _ us hl=>by obtain ⟨a,b,rfl⟩:=uF hl;rfl
  have k50:=F50.1.calleeH F50.2 ((rM (P:=P) (w:=w) (base:=base) dv aF Er F50.1).to (qx nd)) fun _ _ _ _ _ _ us hl=>by obtain ⟨a,rfl⟩:=qo hl;rfl
  have k12:=F12.1.callee F12.2 ((sO (P:=P) (w:=w) (base:=base) qQ jf aF F12.1).to tR) fun _ _ _ _ _ _ us hl=>by obtain ⟨a,rfl⟩:=qo hl;rfl
  have k13:=F13.1.callee F13.2 ((rR k12 F13.1).to si) fun _ _ _ _ _ _ us hl=>by obtain ⟨a,b,c,rfl⟩:=CI hl;rfl
  have k14:=F14.1.callee F14.2 ((ti (P:=P) (w:=w) (base:=base) qN aF xx F14.1).to tY) fun _ _ _ _ _ _ us hl=>by obtain ⟨a,rfl⟩:=qo hl;rfl
  have k18:=F18.1.callee F18.2 ((kM qN aF bn bH bq k14 F18.1).to kH) fun _ _ _ _ _ _ us hl=>by obtain ⟨a,b,rfl⟩:=uF hl;rfl
  have k19:=F19.1.callee F19.2 ((sS aF bn bH k13 F19.1).to uk) fun _ _ _ _ _ _ us hl=>by obtain ⟨a,b,c,rfl⟩:=CI hl;rfl
  have k20:=F20.1.callee F20.2 ((rz aF bn bH bD (k13.mono 3) (k18.mono 3) k19 F20.1).to qR) fun _ _ _ _ _ _ us hl=>by obtain ⟨a,rfl⟩:=qo hl;rfl
  have k21:=F21.1.callee F21.2 ((mY jS k20 F21.1).to lZ) fun _ _ _ _ _ _ us hl=>by obtain ⟨a,rfl⟩:=qo hl;rfl
  have k38:=F38.1.callee F38.2 ((mz (P:=P) (w:=w) (base:=base) bn F38.1).to mE) fun _ _ _ _ _ _ us hl=>by obtain ⟨a,b,rfl⟩:=uF hl;rfl
  have k39:=F39.1.callee F39.2 ((sI bn bI bH bq jX k21 (k13.mono 5) (k38.mono 5) F39.1).to sG) fun _ _ _ _ _ _ us hl=>by obtain ⟨a,b,rfl⟩:=uF hl;rfl
  have k42_2:=gH F42_2.1 F42_2.2 (rB (P:=P) (w:=w) (mg:=mg) (base:=base) aV CK F42_2.1) (fun _ _ _ _ _ _ us hl=>by obtain ⟨a,rfl⟩:=qo hl;rfl) (n:=0) rfl
  have k42_3:=gH F42_3.1 F42_3.2 (nS (P:=P) (w:=w) (mg:=mg) (base:=base) aV k42_2 Gm F42_3.1) (fun _ _ _ _ _ _ us hl=>by obtain ⟨a,b,c,d,rfl⟩:=IL hl;rfl) (n:=3) rfl
  have k42_1:=gH F42_1.1 F42_1.2 (sh (P:=P) (w:=w) (mg:=mg) (base:=base) aV Dg F42_1.1) (fun _ _ _ _ _ _ us hl=>by obtain ⟨a,rfl⟩:=qo hl;rfl) (n:=0) rfl
  have k42_5:=gH F42_5.1 F42_5.2 (pT (P:=P) (w:=w) (mg:=mg) (base:=base) k39 aV (k42_3.mono 6) (k42_1.mono 6) Al F42_5.1) (fun _ _ _ _ _ _ us hl=>by obtain ⟨a,b,rfl⟩:=uF hl;rfl) (n:=1) rfl
  have k26:=F26.1.callee F26.2 ((xw bn cJ k14 F26.1).to yU) fun _ _ _ _ _ _ us hl=>by obtain ⟨a,rfl⟩:=qo hl;rfl
  have k27:=F27.1.callee F27.2 ((zI bn bq bD k13 F27.1).to AO) fun _ _ _ _ _ _ us hl=>by obtain ⟨a,rfl⟩:=qo hl;rfl
  have k28:=F28.1.callee F28.2 ((uw aF bH (k26.mono 3) k27 F28.1).to tx) fun _ _ _ _ _ _ us hl=>by obtain ⟨a,rfl⟩:=qo hl;rfl
  have k29:=F29.1.callee F29.2 ((nK mG k28 F29.1).to nX) fun _ _ _ _ _ _ us hl=>by obtain ⟨a,rfl⟩:=qo hl;rfl
  have k30:=F30.1.callee F30.2 ((gW (P:=P) (w:=w) (base:=base) F30.1).to gZ) fun _ _ _ _ _ _ us hl=>by obtain ⟨a,b,c,rfl⟩:=CI hl;rfl
  have k31:=F31.1.callee F31.2 ((rS bn gO k30 F31.1).to qF) fun _ _ _ _ _ _ us hl=>by obtain ⟨a,b,rfl⟩:=uF hl;rfl
  have k32:=F32.1.callee F32.2 ((sH (P:=P) (w:=w) (base:=base) bn gO F32.1).to um) fun _ _ _ _ _ _ us hl=>by obtain ⟨a,b,c,rfl⟩:=CI hl;rfl
  have k33:=F33.1.callee F33.2 ((pC k30 F33.1).to oP) fun _ _ _ _ _ _ us hl=>by obtain ⟨a,rfl⟩:=qo hl;rfl
  have k34:=F34.1.callee F34.2 ((nU k31 (k32.mono 2) k33 F34.1).to nO) fun _ _ _ _ _ _ us hl=>by obtain ⟨a,b,rfl⟩:=uF hl;rfl
  have k35:=F35.1.callee F35.2 ((CV k21 k29 (k34.mono 5) F35.1).to CM) fun _ _ _ _ _ _ us hl=>by obtain ⟨a,b,rfl⟩:=uF hl;rfl
  have k36:=F36.1.callee F36.2 ((pI (P:=P) (w:=w) (base:=base) bn ee cF F36.1).to pc) fun _ _ _ _ _ _ us hl=>by obtain ⟨a,rfl⟩:=qo hl;rfl
  have k42_4:=gH F42_4.1 F42_4.2 (xq (P:=P) (w:=w) (mg:=mg) (base:=base) k35 (k36.mono 6) aV (k42_1.mono 6) (k42_3.mono 6) (k42_2.mono 6) JC F42_4.1) (fun _ _ _ _ _ _ us hl=>by obtain ⟨a,b,rfl⟩:=uF hl;rfl) (n:=1) rfl
  have k54:=yr F54.1 F54.2 (wN (P:=P) (w:=w) (mg:=mg) (base:=base) (mJ (P:=P) (w:=w) (base:=base) (k:=8) ((k50.mono 8)) Er F51.1 F51.2) aV k42_5 k42_4 (yN (y:="_law_deed_here") (nm:="e") (k:=8) F51.1 F51.2 iI rfl (fun _ _ _ _ _ _ _=>rfl) rfl) HJ L54 F54.1) (fun _ _ _ _ _ _ us hl=>by obtain ⟨a,b,rfl⟩:=uF hl;rfl) (n:=1) rfl
  have k55:=yr F55.1 F55.2 (sN (P:=P) (w:=w) (mg:=mg) (base:=base) aV k42_2 k42_1 EC F55.1) (fun _ _ _ _ _ _ us hl=>by obtain ⟨a,rfl⟩:=qo hl;rfl) (n:=0) rfl
  have k42_7:=gH F42_7.1 F42_7.2 (sB (P:=P) (w:=w) (mg:=mg) (base:=base) bn gT aV FC F42_7.1) (fun _ _ _ _ _ _ us hl=>by obtain ⟨a,rfl⟩:=qo hl;rfl) (n:=0) rfl
  have k42_9:=gH F42_9.1 F42_9.2 (pJ (P:=P) (w:=w) (mg:=mg) (base:=base) bn aV A2 F42_9.1) (fun _ _ _ _ _ _ us hl=>by obtain ⟨a,rfl⟩:=qo hl;rfl) (n:=0) rfl
  have k42_8:=gH F42_8.1 F42_8.2 (qO (P:=P) (w:=w) (mg:=mg) (base:=base) bn gT aV BU F42_8.1) (fun _ _ _ _ _ _ us hl=>by obtain ⟨a,rfl⟩:=qo hl;rfl) (n:=0) rfl
  have k42_0:=mkc F42_0.1 F42_0.2 D5 (tJ (P:=P) (w:=w) (mg:=mg) (base:=base) ni k21 aV FP F42_0.1) (fun _ _ _ _ _ _ us hl=>by obtain ⟨a,b,rfl⟩:=uF hl;rfl) (n:=1) rfl
  have k42_10:=BT F42_10.1 F42_10.2 (tZ (P:=P) (w:=w) (mg:=mg) (base:=base) nY aV (k42_1.mono 7) k42_0 FO F42_10.1) (fun _ _ _ _ _ _ us hl=>by obtain ⟨a,rfl⟩:=qo hl;rfl) rfl
  exact FX jf bn bI (k48.mono 10) (k52.mono 10) (k53.mono 10) (mJ (P:=P) (w:=w) (base:=base) (k:=9) ((k50.mono 9)) Er F51.1 F51.2) aV (k42_7.mono 10) (k42_9.mono 10) (k42_8.mono 10) (k42_10.mono 10) (zZ k42_0 9) (k42_7.mono 8) k54 (k55.mono 10) (yN (y:="_law_deed_here") (nm:="e") (k:=9) F51.1 F51.2 iI rfl (fun _ _ _ _ _ _ _=>rfl) rfl) (BW (Fp nd)) L56 F56.1
end G86
theorem PySem.W.Fast.tw5883999224477633366:True:=trivial
theorem PySem.W.Fast.tw2448538148453956832:True:=trivial
theorem PySem.W.Fast.tw10234171248943363394:True:=trivial
theorem PySem.W.Fast.tw12197990002012003492:True:=trivial
theorem PySem.W.Fast.tw8697692306474047013:True:=trivial
theorem PySem.W.Fast.tw6351593271572562666:True:=trivial
theorem PySem.W.Fast.tw11651603936049405483:True:=trivial
theorem PySem.W.Fast.tw17420053168996238477:True:=trivial
theorem PySem.W.Fast.tw10600279846556179630:True:=trivial
theorem PySem.W.Fast.tw16054431968322551087:True:=trivial
theorem PySem.W.Fast.tw13081409629565621584:True:=trivial
theorem PySem.W.Fast.tw4085830250370179568:True:=trivial
theorem PySem.W.Fast.tw1987736415003820436:True:=trivial
theorem PySem.W.Fast.tw673038097629831829:True:=trivial
theorem PySem.W.Fast.tw13165505237959661527:True:=trivial
theorem PySem.W.Fast.tw12332680971829282841:True:=trivial
theorem PySem.W.Fast.tw13212089563289825660:True:=trivial
theorem PySem.W.Fast.tw15992230244378332733:True:=trivial
theorem PySem.W.Fast.tw14432819713167544093:True:=trivial
theorem PySem.W.Fast.tw10086425820909440191:True:=trivial
open PySem PySem.W PyProof.Rows
set_option maxRecDepth 100000 in
set_option maxHeartbeats 0 in
theorem PySem.Challenge.cw_screenlines_k86_whole_pad_twins_holds : PySem.Challenge.rw_screenlines_k86_whole_pad_twins.Holds := by
 w_on;o_law;k_head;(case hw=>w_witness2)
 k_fill
 refine Q.GU (l:=PySem.Challenge.rw_screenlines_k86_whole_pad_twins) (L:=11) ⟨rfl,by decide,by decide⟩ rfl rfl (by decide) ?F
 case F=>
  intro w mg fa h KX G hmg
  have dv:mg "ValueError"=none:=PySem.W.mg_none_of KX G (by k_is)
  have qN:mg "all"=none:=PySem.W.mg_none_of KX G (by k_is)
  have qQ:mg "bool"=none:=PySem.W.mg_none_of KX G (by k_is)
  have jf:mg "int"=none:=PySem.W.mg_none_of KX G (by k_is)
  have aF:mg "isinstance"=none:=PySem.W.mg_none_of KX G (by k_is)
  have bn:mg "len"=none:=PySem.W.mg_none_of KX G (by k_is)
  have nY:mg "list"=none:=PySem.W.mg_none_of KX G (by k_is)
  have bI:mg "range"=none:=PySem.W.mg_none_of KX G (by k_is)
  have xx:mg "str"=none:=PySem.W.mg_none_of KX G (by k_is)
  have bH:mg "tuple"=none:=PySem.W.mg_none_of KX G (by k_is)
  have ee:∃ t,mg "GO_COST"=some (.int 2 t):=⟨_,PySem.W.mg_of KX G (by k_is)⟩
  have ni:∃ t,mg "MADE"=some (.str "made" t):=⟨_,PySem.W.mg_of KX G (by k_is)⟩
  have bq:∃ t,mg "MOST_ROWS"=some (.int 12 t):=⟨_,PySem.W.mg_of KX G (by k_is)⟩
  have cJ:∃ t,mg "MOST_SAID"=some (.int 40 t):=⟨_,PySem.W.mg_of KX G (by k_is)⟩
  have bD:∃ t,mg "MOST_WIDTH"=some (.int 40 t):=⟨_,PySem.W.mg_of KX G (by k_is)⟩
  have cF:∃ t,mg "WIPE_COST"=some (.int 1 t):=⟨_,PySem.W.mg_of KX G (by k_is)⟩
  have h44:=Q.bJ (x:="_law_cell") (st:=G86.top 44) KX G (by k_is) (by k_is) (by k_is) (by k_is)
  have h45:=Q.bJ (x:="_law_pick") (st:=G86.top 45) KX G (by k_is) (by k_is) (by k_is) (by k_is)
  have h46:=Q.bJ (x:="_law_row") (st:=G86.top 46) KX G (by k_is) (by k_is) (by k_is) (by k_is)
  have h47:=Q.bJ (x:="_law_screen") (st:=G86.top 47) KX G (by k_is) (by k_is) (by k_is) (by k_is)
  have h48:=Q.bJ (x:="_law_some") (st:=G86.top 48) KX G (by k_is) (by k_is) (by k_is) (by k_is)
  have h52:=Q.bJ (x:="_law_deed") (st:=G86.top 52) KX G (by k_is) (by k_is) (by k_is) (by k_is)
  have h49:=Q.bJ (x:="_law_step") (st:=G86.top 49) KX G (by k_is) (by k_is) (by k_is) (by k_is)
  have h53:=Q.bJ (x:="_law_behind") (st:=G86.top 53) KX G (by k_is) (by k_is) (by k_is) (by k_is)
  have h50:=Q.bJ (x:="_law_class") (st:=G86.top 50) KX G (by k_is) (by k_is) (by k_is) (by k_is)
  have h51:=Q.bJ (x:="_law_told") (st:=G86.top 51) KX G (by k_is) (by k_is) (by k_is) (by k_is)
  have h12:=Q.bJ (x:="is_whole") (st:=G86.top 12) KX G (by k_is) (by k_is) (by k_is) (by k_is)
  have h13:=Q.bJ (x:="is_within") (st:=G86.top 13) KX G (by k_is) (by k_is) (by k_is) (by k_is)
  have h14:=Q.bJ (x:="is_plain") (st:=G86.top 14) KX G (by k_is) (by k_is) (by k_is) (by k_is)
  have h18:=Q.bJ (x:="are_full_rows") (st:=G86.top 18) KX G (by k_is) (by k_is) (by k_is) (by k_is)
  have h19:=Q.bJ (x:="is_place") (st:=G86.top 19) KX G (by k_is) (by k_is) (by k_is) (by k_is)
  have h20:=Q.bJ (x:="is_screen") (st:=G86.top 20) KX G (by k_is) (by k_is) (by k_is) (by k_is)
  have h21:=Q.bJ (x:="check_screen") (st:=G86.top 21) KX G (by k_is) (by k_is) (by k_is) (by k_is)
  have h38:=Q.bJ (x:="row_or_blank") (st:=G86.top 38) KX G (by k_is) (by k_is) (by k_is) (by k_is)
  have h39:=Q.bJ (x:="scrolled") (st:=G86.top 39) KX G (by k_is) (by k_is) (by k_is) (by k_is)
  have h26:=Q.bJ (x:="is_say") (st:=G86.top 26) KX G (by k_is) (by k_is) (by k_is) (by k_is)
  have h27:=Q.bJ (x:="is_go") (st:=G86.top 27) KX G (by k_is) (by k_is) (by k_is) (by k_is)
  have h28:=Q.bJ (x:="is_order") (st:=G86.top 28) KX G (by k_is) (by k_is) (by k_is) (by k_is)
  have h29:=Q.bJ (x:="check_order") (st:=G86.top 29) KX G (by k_is) (by k_is) (by k_is) (by k_is)
  have h30:=Q.bJ (x:="with_row_at_place") (st:=G86.top 30) KX G (by k_is) (by k_is) (by k_is) (by k_is)
  have h31:=Q.bJ (x:="after_say") (st:=G86.top 31) KX G (by k_is) (by k_is) (by k_is) (by k_is)
  have h32:=Q.bJ (x:="after_go") (st:=G86.top 32) KX G (by k_is) (by k_is) (by k_is) (by k_is)
  have h33:=Q.bJ (x:="after_wipe") (st:=G86.top 33) KX G (by k_is) (by k_is) (by k_is) (by k_is)
  have h34:=Q.bJ (x:="after_order") (st:=G86.top 34) KX G (by k_is) (by k_is) (by k_is) (by k_is)
  have h35:=Q.bJ (x:="done") (st:=G86.top 35) KX G (by k_is) (by k_is) (by k_is) (by k_is)
  have h36:=Q.bJ (x:="order_cost") (st:=G86.top 36) KX G (by k_is) (by k_is) (by k_is) (by k_is)
  have h54:=Q.xW (x:="_law_did") (st:=G86.top 54) KX G (by k_is) (by k_is) (by k_is) (by k_is) (by k_is) (by rfl) (by rfl) (by rfl) (by rfl) (by rfl) (by rfl) (by decide) (by decide)
  have h55:=Q.bJ (x:="_law_seen") (st:=G86.top 55) KX G (by k_is) (by k_is) (by k_is) (by k_is)
  have h56:=Q.xW (x:="law") (st:=G86.top 56) KX G (by k_is) (by k_is) (by k_is) (by k_is) (by k_is) (by rfl) (by rfl) (by rfl) (by rfl) (by rfl) (by rfl) (by decide) (by decide)
  refine' Q.JD (tq:=([(_,"_law_did"++".<locals>."++"<lambda>"),(_,"law"++".<locals>."++"<lambda>")]:List (Addr×PySem.Str))) ?dl1 ?dl2 (Q.Bn h54 KX (Q.Bn h56 KX Q.Gn)) (G86.EI (P:=_) (w:=w) (K:=L2.KOf KX) hmg dv qN qQ jf aF bn nY bI xx bH ee ni bq cJ bD cF ?pM ?oY ?jP ?jK ?lP ?mw ?pB ?oS ?jH ?jR ?DU ?aV ?nd (Q.DC KX G ?sL ?h1 ?h2 ?tL ?yL ?lb) h44 h45 h46 h47 h48 h52 h49 h53 h50 h51 h12 h13 h14 h18 h19 h20 h21 h38 h39 ?h42_2 ?h42_3 ?h42_1 ?h42_5 h26 h27 h28 h29 h30 h31 h32 h33 h34 h35 h36 ?h42_4 h54 h55 ?h42_7 ?h42_9 ?h42_8 ?h42_0 ?h42_10 h56)
  all_goals (try dsimp only [L2.KOf])
  (case dl1=>decide)
  (case dl2=>decide)
  (case pM=>k_is)
  (case jP=>k_is)
  (case lP=>k_is)
  (case pB=>k_is)
  (case jH=>k_is)
  (case sL=>k_is)
  (case h1=>dsimp only [Q.TsOk];exact ⟨by k_is,⟨_,by k_is⟩,by k_is,by k_is,⟨_,by k_is⟩,by k_is,by k_is,⟨_,by k_is⟩,by k_is,by k_is,⟨_,by k_is⟩,by k_is,by k_is,⟨_,by k_is⟩,by k_is,by k_is,⟨_,by k_is⟩,by k_is,by k_is,⟨_,by k_is⟩,by k_is,by k_is,⟨_,by k_is⟩,by k_is,trivial⟩)
  (case h2=>dsimp only [Q.RsOk,Q.SubOk];exact ⟨Q.qv (by k_is) (by k_is) (by k_is) (by k_is) (by k_is) (by k_is) (by k_is) (by k_is),⟨.inr (by k_is),.inr (by k_is),.inr (by k_is),.inr (by k_is),.inr (by k_is),.inr (by k_is),.inr (by k_is),.inl rfl,trivial⟩,by k_is,by k_is,Q.qv (by k_is) (by k_is) (by k_is) (by k_is) (by k_is) (by k_is) (by k_is) (by k_is),⟨.inr (by k_is),.inr (by k_is),.inr (by k_is),.inl rfl,.inr (by k_is),.inr (by k_is),.inr (by k_is),.inr (by k_is),trivial⟩,by k_is,by k_is,Q.qv (by k_is) (by k_is) (by k_is) (by k_is) (by k_is) (by k_is) (by k_is) (by k_is),⟨.inr (by k_is),.inl rfl,.inr (by k_is),.inr (by k_is),.inr (by k_is),.inr (by k_is),.inr (by k_is),.inr (by k_is),trivial⟩,by k_is,by k_is,Q.qv (by k_is) (by k_is) (by k_is) (by k_is) (by k_is) (by k_is) (by k_is) (by k_is),⟨.inr (by k_is),.inr (by k_is),.inl rfl,.inr (by k_is),.inr (by k_is),.inr (by k_is),.inr (by k_is),.inr (by k_is),trivial⟩,by k_is,by k_is,Q.qv (by k_is) (by k_is) (by k_is) (by k_is) (by k_is) (by k_is) (by k_is) (by k_is),⟨.inl rfl,.inr (by k_is),.inr (by k_is),.inr (by k_is),.inr (by k_is),.inr (by k_is),.inr (by k_is),.inr (by k_is),trivial⟩,by k_is,by k_is,trivial⟩)
  (case tL=>k_is)
  (case yL=>k_is)
  (case lb=>k_is)
  (case nd=>decide)
  (case oY=>k_exc)
  (case jK=>k_exc)
  (case mw=>k_exc)
  (case oS=>k_exc)
  (case jR=>k_exc)
  (case DU=>k_is)
  (case aV=>exact Q.zk 0 (x:="states") (Q.zk 1 (x:="taken_back") (Q.Gi (by k_is) (by k_is) (by k_is) (by k_is)) (by decide) rfl (by k_is)) (by decide) rfl (by k_is))
  (case h42_2=>exact Q.fB (st:=(L2.aY (G86.top 42) 2)) (by k_is) (by k_is) (by k_is) (by k_is) (by k_is))
  (case h42_3=>exact Q.fB (st:=(L2.aY (G86.top 42) 3)) (by k_is) (by k_is) (by k_is) (by k_is) (by k_is))
  (case h42_1=>exact Q.fB (st:=(L2.aY (G86.top 42) 1)) (by k_is) (by k_is) (by k_is) (by k_is) (by k_is))
  (case h42_5=>exact Q.fB (st:=(L2.aY (G86.top 42) 5)) (by k_is) (by k_is) (by k_is) (by k_is) (by k_is))
  (case h42_4=>exact Q.fB (st:=(L2.aY (G86.top 42) 4)) (by k_is) (by k_is) (by k_is) (by k_is) (by k_is))
  (case h42_7=>exact Q.fB (st:=(L2.aY (G86.top 42) 7)) (by k_is) (by k_is) (by k_is) (by k_is) (by k_is))
  (case h42_9=>exact Q.fB (st:=(L2.aY (G86.top 42) 9)) (by k_is) (by k_is) (by k_is) (by k_is) (by k_is))
  (case h42_8=>exact Q.fB (st:=(L2.aY (G86.top 42) 8)) (by k_is) (by k_is) (by k_is) (by k_is) (by k_is))
  (case h42_0=>exact Q.B2 (st:=(L2.aY (G86.top 42) 0)) (by k_is) (by k_is) (by k_is) (by k_is) (by k_is) (by k_is) (by k_is))
  (case h42_10=>exact Q.fB (st:=(L2.aY (G86.top 42) 10)) (by k_is) (by k_is) (by k_is) (by k_is) (by k_is))
end
end
